"""Tables and words that several tests draw on."""

EXAMPLE_TEXT = "\n".join([
    "hands idle none, wait none, mine write",
    "houses home, out",
    "hand idle write -> wait: send get bare",
    "hand wait give -> mine: keep, put",
    "hand mine drop -> idle: send back value, lose",
    "house home get any -> out: own, send give value",
    "house out get any -> out: wait",
    "house out back any -> home: keep, clear",
])

EXAMPLE = (
    (("idle", "none"), ("wait", "none"), ("mine", "write")),
    ("home", "out"),
    (
        ("hand", "idle", "write", "wait", (("send", "get", "bare"),)),
        ("hand", "wait", "give", "mine", (("keep",), ("put",))),
        ("hand", "mine", "drop", "idle", (("send", "back", "value"), ("lose",))),
        ("house", "home", "get", "any", "out", (("own",), ("send", "give", "value"))),
        ("house", "out", "get", "any", "out", (("wait",),)),
        ("house", "out", "back", "any", "home", (("keep",), ("clear",))),
    ),
)

ASKS = ("read", "write", "drop")

# Every word that has a meaning of its own in the text of a table.
TABLE_WORDS = (
    "hand", "house", "hands", "houses", "read", "write", "drop", "none", "any", "last", "more",
    "keep", "lose", "tell", "put", "send", "owner", "others", "own", "share", "forget", "clear",
    "stay", "wait", "bare", "value",
)

HAND_ACTS = (
    ("keep",), ("lose",), ("tell",), ("put",), ("send", "give", "bare"), ("send", "give", "value"),
)

HOUSE_ACTS = (
    ("keep",), ("own",), ("share",), ("forget",), ("clear",), ("stay",),
    ("send", "give", "bare"), ("send", "give", "value"),
    ("owner", "give", "bare"), ("owner", "give", "value"),
    ("others", "give", "bare"), ("others", "give", "value"),
)

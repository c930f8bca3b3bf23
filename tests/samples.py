"""Tables and words that several tests draw on."""

EXAMPLE_TEXT = "\n".join([
    "hands idle none, wait none, mine write",
    "houses home, out",
    "hand idle write -> wait: send get bare",
    "hand wait give -> mine: keep, put",
    "hand mine drop -> idle: send back value, lose",
    "house home get any -> out: own, send give value",
    "house out get any -> out: wait",
    "house out back any -> home: keep, clear",
])

EXAMPLE = (
    (("idle", "none"), ("wait", "none"), ("mine", "write")),
    ("home", "out"),
    (
        ("hand", "idle", "write", "wait", (("send", "get", "bare"),)),
        ("hand", "wait", "give", "mine", (("keep",), ("put",))),
        ("hand", "mine", "drop", "idle", (("send", "back", "value"), ("lose",))),
        ("house", "home", "get", "any", "out", (("own",), ("send", "give", "value"))),
        ("house", "out", "get", "any", "out", (("wait",),)),
        ("house", "out", "back", "any", "home", (("keep",), ("clear",))),
    ),
)

ASKS = ("read", "write", "drop")

# Every word that has a meaning of its own in the text of a table.
TABLE_WORDS = (
    "hand", "house", "hands", "houses", "read", "write", "drop", "none", "any", "last", "more",
    "keep", "lose", "tell", "put", "send", "owner", "others", "own", "share", "forget", "clear",
    "stay", "wait", "bare", "value",
)

HAND_ACTS = (
    ("keep",), ("lose",), ("tell",), ("put",), ("send", "give", "bare"), ("send", "give", "value"),
)

HOUSE_ACTS = (
    ("keep",), ("own",), ("share",), ("forget",), ("clear",), ("stay",),
    ("send", "give", "bare"), ("send", "give", "value"),
    ("owner", "give", "bare"), ("owner", "give", "value"),
    ("others", "give", "bare"), ("others", "give", "value"),
)

# Many hands may look, or one alone may write; who wants to write waits until the others have let go.
SHARING_TEXT = "\n".join([
    "hands idle none, wantr none, look read, wantw none, mine write",
    "houses home, lent, calls, out, recalls",
    "hand idle read -> wantr: send ask bare",
    "hand wantr give -> look: keep, tell",
    "hand look read -> look: tell",
    "hand look drop -> idle: lose, send bye bare",
    "hand idle write -> wantw: send claim bare",
    "hand wantw grant -> mine: keep, put",
    "hand mine read -> mine: tell",
    "hand mine write -> mine: put",
    "hand mine drop -> idle: send back value, lose",
    "hand mine recall -> idle: send back value, lose",
    "hand look call -> idle: lose, send bye bare",
    "house home ask any -> lent: share, send give value",
    "house lent ask any -> lent: share, send give value",
    "house lent bye last -> home: forget",
    "house lent bye more -> lent: forget",
    "house home claim any -> out: own, send grant value",
    "house lent claim more -> calls: others call bare, stay",
    "house calls claim any -> calls: wait",
    "house calls ask any -> calls: wait",
    "house calls bye more -> calls: forget",
    "house calls bye last -> home: forget",
    "house out back any -> home: keep, clear",
    "house out ask any -> recalls: owner recall bare, stay",
    "house out claim any -> recalls: owner recall bare, stay",
    "house recalls ask any -> recalls: wait",
    "house recalls claim any -> recalls: wait",
    "house recalls back any -> home: keep, clear",
])

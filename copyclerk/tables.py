"""Tables: what a table may hold, and what it tells of a state."""

SMALL_LETTERS = "abcdefghijklmnopqrstuvwxyz"
MOST_LETTERS = 8
MOST_STATES = 8
MOST_ACTS = 6

ASKS = ("read", "write", "drop")
RIGHTS = ("none", "read", "write")
WHENS = ("any", "last", "more")
LOADS = ("bare", "value")

HAND_ACTS = ("keep", "lose", "tell", "put")
HAND_SENDS = ("send",)
HOUSE_ACTS = ("keep", "own", "share", "forget", "clear", "stay")
HOUSE_SENDS = ("send", "owner", "others")
WAITS = (("wait",),)


def right_of(table, state):
    for name, right in table[0]:
        if name == state:
            return right
    return "none"


def hand_row(table, state, event):
    return row_for(table, ("hand", state, event))


def house_row(table, state, kind, last):
    row = row_for(table, ("house", state, kind, "any"))
    if row is None:
        row = row_for(table, ("house", state, kind, "last" if last else "more"))
    return row


def row_for(table, head):
    for row in table[2]:
        if row[:len(head)] == head:
            return row
    return None


def is_wait(row):
    return row is not None and row[-1] == WAITS


def is_word(text):
    if len(text) < 1 or len(text) > MOST_LETTERS:
        return False
    return all([sign in SMALL_LETTERS for sign in text])


def is_kind(text):
    return is_word(text) and text not in ASKS


def are_states(words):
    if len(words) < 1 or len(words) > MOST_STATES:
        return False
    return all([is_word(word) for word in words]) and len(set(words)) == len(words)


def are_hands(pairs):
    if not all([len(pair) == 2 and pair[1] in RIGHTS for pair in pairs]):
        return False
    return are_states(states_of(pairs))


def states_of(hands):
    return tuple([pair[0] for pair in hands])


def is_row(row, hand_states, house_states):
    if row[0] == "hand":
        return len(row) == 5 and is_hand_row(row, hand_states)
    if row[0] == "house":
        return len(row) == 6 and is_house_row(row, house_states)
    return False


def is_hand_row(row, states):
    if row[1] not in states or row[3] not in states or not is_word(row[2]):
        return False
    acts = row[4]
    # An ask brings no letter, so there is nothing to keep.
    if row[2] in ASKS and ("keep",) in acts:
        return False
    if acts.count(("tell",)) + acts.count(("put",)) > 1:
        return False
    return are_acts(acts, HAND_ACTS, HAND_SENDS)


def is_house_row(row, states):
    if row[1] not in states or row[4] not in states:
        return False
    if not is_kind(row[2]) or row[3] not in WHENS:
        return False
    if row[5] == WAITS:
        return row[3] == "any"
    return are_acts(row[5], HOUSE_ACTS, HOUSE_SENDS)


def are_acts(acts, plain, sends):
    return len(acts) <= MOST_ACTS and all([is_act(act, plain, sends) for act in acts])


def is_act(act, plain, sends):
    if len(act) == 1:
        return act[0] in plain
    return len(act) == 3 and act[0] in sends and is_kind(act[1]) and act[2] in LOADS


def place_of(row):
    return row[:3] if row[0] == "hand" else row[:4]


def rival_places(row):
    if row[0] == "hand":
        return [row[:3]]
    # A row of any is for the last sender and for the others as well.
    whens = WHENS if row[3] == "any" else ("any", row[3])
    return [row[:3] + (when,) for when in whens]

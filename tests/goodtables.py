"""Tables by which all goes right for any number of hands, and tables made of them by one change."""

from copyclerk.tabletext import read_table, table_text

# One hand at a time has the value, until the house calls it back; ways must keep order.
CALLING_TEXT = "\n".join([
    "hands idle none, wait none, mine write",
    "houses home, out, busy",
    "hand idle write -> wait: send get bare",
    "hand wait give -> mine: keep, put",
    "hand mine write -> mine: put",
    "hand mine read -> mine: tell",
    "hand mine call -> idle: send back value, lose",
    "house home get any -> out: own, send give value",
    "house out get any -> busy: owner call bare, stay",
    "house busy get any -> busy: wait",
    "house busy back any -> home: keep, clear",
])

# The same where ways need not keep order: the house waits until it knows that the value has come.
KNOWING_TEXT = "\n".join([
    "hands idle none, wait none, mine write",
    "houses home, lent, out, busy",
    "hand idle write -> wait: send get bare",
    "hand wait give -> mine: keep, put, send have bare",
    "hand mine write -> mine: put",
    "hand mine read -> mine: tell",
    "hand mine call -> idle: send back value, lose",
    "house home get any -> lent: own, send give value",
    "house lent get any -> lent: wait",
    "house lent have any -> out",
    "house out get any -> busy: owner call bare, stay",
    "house busy get any -> busy: wait",
    "house busy back any -> home: keep, clear",
])

# No hand keeps a copy: each brings the value back at once.
BRINGING_TEXT = "\n".join([
    "hands idle none, looks none, brings none",
    "houses home, busy",
    "hand idle read -> looks: send ask bare",
    "hand looks give -> idle: keep, tell, send done value, lose",
    "hand idle write -> brings: send ask bare",
    "hand brings give -> idle: keep, put, send done value, lose",
    "house home ask any -> busy: send give value",
    "house busy ask any -> busy: wait",
    "house busy done any -> home: keep",
])

# Many hands look, or one writes; who looks or writes lets go when called; ways must keep order.
LOOKING_TEXT = "\n".join([
    "hands idle none, wantr none, look read, wantw none, mine write",
    "houses home, calls, out, recalls",
    "hand idle read -> wantr: send ask bare",
    "hand wantr give -> look: keep, tell",
    "hand look read -> look: tell",
    "hand look call -> idle: lose, send bye bare",
    "hand idle write -> wantw: send claim bare",
    "hand wantw grant -> mine: keep, put",
    "hand mine read -> mine: tell",
    "hand mine write -> mine: put",
    "hand mine recall -> idle: send back value, lose",
    "house home ask any -> home: share, send give value",
    "house home claim last -> out: own, send grant value",
    "house home claim more -> calls: others call bare, stay",
    "house calls ask any -> calls: wait",
    "house calls claim any -> calls: wait",
    "house calls bye more -> calls: forget",
    "house calls bye last -> home: forget",
    "house out ask any -> recalls: owner recall bare, stay",
    "house out claim any -> recalls: owner recall bare, stay",
    "house recalls ask any -> recalls: wait",
    "house recalls claim any -> recalls: wait",
    "house recalls back any -> home: keep, clear",
])

# The same where ways need not keep order.
MINDING_TEXT = "\n".join([
    "hands idle none, wantr none, look read, wantw none, mine write",
    "houses home, lends, calls, gives, out, recalls",
    "hand idle read -> wantr: send ask bare",
    "hand wantr give -> look: keep, tell, send have bare",
    "hand look read -> look: tell",
    "hand look call -> idle: lose, send bye bare",
    "hand idle write -> wantw: send claim bare",
    "hand wantw grant -> mine: keep, put, send have bare",
    "hand mine read -> mine: tell",
    "hand mine write -> mine: put",
    "hand mine recall -> idle: send back value, lose",
    "house home ask any -> lends: share, send give value",
    "house lends have any -> home",
    "house lends ask any -> lends: wait",
    "house lends claim any -> lends: wait",
    "house home claim last -> gives: own, send grant value",
    "house home claim more -> calls: others call bare, stay",
    "house calls ask any -> calls: wait",
    "house calls claim any -> calls: wait",
    "house calls bye more -> calls: forget",
    "house calls bye last -> home: forget",
    "house gives have any -> out",
    "house gives ask any -> gives: wait",
    "house gives claim any -> gives: wait",
    "house out ask any -> recalls: owner recall bare, stay",
    "house out claim any -> recalls: owner recall bare, stay",
    "house recalls ask any -> recalls: wait",
    "house recalls claim any -> recalls: wait",
    "house recalls back any -> home: keep, clear",
])

# Nothing is read or written: letters go to the house and come back, each hand by itself.
ROUNDS_TEXT = "\n".join([
    "hands idle none, once none, twice none",
    "houses home",
    "hand idle drop -> once: send ping bare",
    "hand once pong -> twice: send ping bare",
    "hand twice pong -> idle",
    "house home ping any -> home: send pong bare",
])

EMPTY_TEXT = "hands idle none\nhouses home"

# Those that are good only where ways keep order, and those that are good whether or not they do.
BY_ORDER = [read_table(text) for text in (CALLING_TEXT, LOOKING_TEXT)]
BY_ANY = [read_table(text) for text in (KNOWING_TEXT, BRINGING_TEXT, MINDING_TEXT, ROUNDS_TEXT, EMPTY_TEXT)]

CALLING, LOOKING = BY_ORDER
KNOWING, BRINGING, MINDING, ROUNDS, EMPTY = BY_ANY


def chain(length):
    """A table in which a hand goes round by so many letters to the house and so many to the hand."""
    states = ["idle"] + ["abcdefg"[place] for place in range(length)]
    rows = ["hands " + ", ".join(state + " none" for state in states), "houses home",
            "hand idle drop -> a: send ping bare"]
    for state, after in zip(states[1:], states[2:]):
        rows.append(f"hand {state} pong -> {after}: send ping bare")
    rows += [f"hand {states[-1]} pong -> idle", "house home ping any -> home: send pong bare"]
    return read_table("\n".join(rows))


def good_ones():
    """Pairs of a table and whether ways keep order, each of them good."""
    return [(table, True) for table in BY_ORDER + BY_ANY] + [(table, False) for table in BY_ANY]


def is_table(table):
    return read_table(table_text(table)) == table


def changed_once(table):
    """Each table with one row left out, one act left out, or one next state exchanged for another."""
    hands, houses, rows = table
    for place, row in enumerate(rows):
        for other in others_of(row, [state for state, right in hands], houses):
            yield (hands, houses, rows[:place] + other + rows[place + 1:])


def others_of(row, hand_states, house_states):
    yield ()
    for place in range(len(row[-1])):
        # A wait left out is a row that takes the letter and does nothing.
        yield (row[:-1] + (row[-1][:place] + row[-1][place + 1:],),)
    for state in hand_states if row[0] == "hand" else house_states:
        if state != row[-2] and row[-1] != (("wait",),):
            yield (row[:-2] + (state, row[-1]),)

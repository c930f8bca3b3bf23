"""Tables as texts: written row by row, and read again."""

from copyclerk.errors import BadTable
from copyclerk.tables import are_hands, are_states, is_row, place_of, rival_places, states_of

HANDS = "hands "
HOUSES = "houses "
ARROW = "->"


def table_text(table):
    pairs = [" ".join(pair) for pair in table[0]]
    lines = [HANDS + ", ".join(pairs), HOUSES + ", ".join(table[1])]
    lines.extend([row_text(row) for row in table[2]])
    return "\n".join(lines)


def row_text(row):
    # Rows of hands and of the house both end with the next state and the acts.
    head = " ".join(row[:-2] + (ARROW, row[-2]))
    acts = [" ".join(act) for act in row[-1]]
    if not acts:
        return head
    return head + ": " + ", ".join(acts)


def read_table(text):
    if not isinstance(text, str):
        raise BadTable(0)
    lines = text.split("\n")
    hands = read_hands(lines[0])
    if not are_hands(hands):
        raise BadTable(0)
    houses = read_houses(lines[1]) if len(lines) > 1 else ()
    if not are_states(houses):
        raise BadTable(1)
    return (hands, houses, read_rows(lines, states_of(hands), houses))


def read_hands(line):
    return tuple([words_of(part) for part in parts_behind(HANDS, line)])


def read_houses(line):
    return tuple(parts_behind(HOUSES, line))


def parts_behind(heading, line):
    # No parts is never good, so another heading needs no sign of its own.
    if not line.startswith(heading):
        return []
    return line[len(heading):].split(", ")


def words_of(part):
    return tuple(part.split(" "))


def read_rows(lines, hand_states, house_states):
    rows = []
    taken = {}
    for number, line in enumerate(lines[2:], start=2):
        row = read_row(line)
        if row is None or not is_row(row, hand_states, house_states):
            raise BadTable(number)
        if any([place in taken for place in rival_places(row)]):
            raise BadTable(number)
        taken[place_of(row)] = True
        rows.append(row)
    return tuple(rows)


def read_row(line):
    halves = line.partition(": ")
    words = words_of(halves[0])
    if len(words) < 2 or words[-2] != ARROW:
        return None
    acts = [words_of(part) for part in halves[2].split(", ")] if halves[1] else []
    return words[:-2] + (words[-1], tuple(acts))

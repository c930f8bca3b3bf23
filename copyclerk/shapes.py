"""Shapes: standings of whatever many hands, told by the configs of their lines."""

from copyclerk.hall import comers
from copyclerk.standings import has_version_of
from copyclerk.tables import house_row, is_wait, right_of

# The counts here, None where the config lacks, by the count that another shape has.
COUNTS_WITHIN = {
    "one": ("one",),
    "some": ("one", "some"),
    "any": ("one", "some", "any", None),
}


def mark_of(value, last):
    if value is None:
        return "none"
    return "last" if has_version_of(value, last) else "old"


def letter_mark(value, last):
    return "bare" if value is None else mark_of(value, last)


def config_of(line, last):
    return (line[0], mark_of(line[1], last), marked_way(line[3], last), marked_way(line[4], last), line[5])


def marked_way(way, last):
    return tuple([(kind, letter_mark(value, last)) for kind, value in way])


def start_shape(table):
    config = (table[0][0][0], "none", (), (), 0)
    return (table[1][0], "last", ((config, "some"),))


def shape_of(standing):
    last = standing[2]
    pairs = [(config_of(line, last), "one") for line in standing[3]]
    return (standing[0], mark_of(standing[1], last), together(pairs))


def together(pairs):
    counts = {}
    for config, count in pairs:
        if config not in counts:
            counts[config] = count
        elif counts[config] != "any" or count != "any":
            counts[config] = "some"
    return tuple(sorted(counts.items()))


def lies_in(standing, shape):
    # A standing's own shape tells one line from more, which is all that a count asks.
    return is_within(shape_of(standing), shape)


def is_within(shape, other):
    # How many configs there are is asked first: papers are long, and this tells most shapes apart.
    if shape[:2] != other[:2] or len(shape[2]) > len(other[2]):
        return False
    here = dict(shape[2])
    there = dict(other[2])
    if not all([config in there for config in here]):
        return False
    return all([here.get(config) in COUNTS_WITHIN[count] for config, count in other[2]])


def may_clash(table, shape):
    writers = [count for config, count in shape[2] if right_of(table, config[0]) == "write"]
    readers = [count for config, count in shape[2] if right_of(table, config[0]) == "read"]
    if not writers:
        return False
    return writers != ["one"] or readers != []


def may_be_stuck(table, shape, order=True):
    held = False
    for config, count in shape[2]:
        if may_move(table, shape[0], config, order):
            if count != "any":
                return False
        elif config[3]:
            held = True
    return held


def may_move(table, state, config, order):
    if config[2]:
        return True
    return not all([waits(table, state, letter) for letter in comers(config[3], order)])


def waits(table, state, letter):
    # A row that waits is one of any, so it's told whether or not the sender is the last one.
    return is_wait(house_row(table, state, letter[0], True))

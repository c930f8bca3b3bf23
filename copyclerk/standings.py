"""Standings: how the house, its store and each hand's line stand."""

from copyclerk.tables import right_of

FIRST_VALUE = (0, 0)
THIN_LAST = (1, 0)
THIN_OLD = (0, 0)


def start(table, many):
    line = (table[0][0][0], None, 0, (), (), 0)
    return (table[1][0], FIRST_VALUE, FIRST_VALUE, (line,) * many)


def clash(table, standing):
    rights = [right_of(table, line[0]) for line in standing[3]]
    return "write" in rights and len(rights) - rights.count("none") > 1


def renamed(standing, order):
    lines = standing[3]
    return standing[:3] + (tuple([lines[hand] for hand in order]),)


def thinned(standing):
    last = standing[2]
    lines = [thinned_line(line, last) for line in standing[3]]
    return (standing[0], thinned_value(standing[1], last), THIN_LAST, tuple(lines))


def thinned_line(line, last):
    value = thinned_value(line[1], last)
    return (line[0], value, 0, thinned_way(line[3], last), thinned_way(line[4], last), line[5])


def thinned_way(way, last):
    return tuple([(kind, thinned_value(value, last)) for kind, value in way])


def thinned_value(value, last):
    if value is None:
        return None
    return THIN_LAST if has_version_of(value, last) else THIN_OLD


def has_version_of(value, last):
    return value[0] == last[0]

"""Finders: of a paper that a table lets by, and of a run that breaks."""

from copyclerk.after import after
from copyclerk.papers import break_of, fault_at_rest, is_within_one
from copyclerk.shapes import start_shape
from copyclerk.standings import start, thinned
from copyclerk.steps import may, step, stuck

GAVE_UP = ("gave up",)


def find_paper(table, order=True, most=400):
    found = [loosened(start_shape(table))]
    place = 0
    while place < len(found):
        shape = found[place]
        told = after(table, shape, order)
        fault = fault_found(table, shape, told, order)
        if fault is not None:
            return ("fault", fault)
        add_shapes(found, told)
        if len(found) > most:
            return GAVE_UP
        place = place + 1
    return ("paper", found)


def loosened(shape):
    pairs = [(config, "any" if is_at_rest(config) else count) for config, count in shape[2]]
    return shape[:2] + (tuple(pairs),)


def is_at_rest(config):
    return config[2] == () and config[3] == () and config[4] == 0


def fault_found(table, shape, told, order):
    fault = fault_at_rest(table, shape, order)
    if fault is not None:
        return fault
    for each in told:
        if each[1]:
            return break_of(shape, each)
    return None


def add_shapes(found, told):
    for each in told:
        behind = loosened(each[2])
        if not is_within_one(behind, found):
            found.append(behind)


def find_run(table, many, order=True, most=3000):
    came = [thinned(start(table, many))]
    trail = {came[0]: ()}
    place = 0
    while place < len(came):
        standing = came[place]
        if stuck(table, standing, order):
            return ("run", deeds_to(standing, trail), ("stuck",))
        for deed in may(table, standing, order):
            told = step(table, standing, deed)
            if told[2] is not None:
                return ("run", deeds_to(standing, trail) + [deed], told[2])
            behind = thinned(told[0])
            if behind not in trail:
                trail[behind] = (standing, deed)
                came.append(behind)
        if len(came) > most:
            return GAVE_UP
        place = place + 1
    return ("none", len(came))


def deeds_to(standing, trail):
    deeds = []
    while trail[standing]:
        deeds.append(trail[standing][1])
        standing = trail[standing][0]
    return list(reversed(deeds))

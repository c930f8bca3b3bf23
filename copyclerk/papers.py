"""Papers: lists of shapes by which a table goes right for any number of hands, and the first fault of one."""

from copyclerk.after import after
from copyclerk.shapes import is_within, may_be_stuck, may_clash, start_shape


def checked(table, paper, order=True):
    first = start_shape(table)
    if not is_within_one(first, paper):
        return ("start", first)
    for shape in paper:
        fault = fault_in_paper(table, shape, paper, order)
        if fault is not None:
            return fault
    return None


def is_within_one(shape, shapes):
    for other in shapes:
        if is_within(shape, other):
            return True
    return False


def fault_in_paper(table, shape, paper, order):
    fault = fault_at_rest(table, shape, order)
    if fault is not None:
        return fault
    for told in after(table, shape, order):
        if told[1]:
            return break_of(shape, told)
        if not is_within_one(told[2], paper):
            return ("lacks", shape, told[0], told[2])
    return None


def fault_at_rest(table, shape, order):
    if may_clash(table, shape):
        return ("clash", shape)
    if may_be_stuck(table, shape, order):
        return ("stuck", shape)
    return None


def break_of(shape, told):
    return ("break", shape, told[0], told[1])

"""Steps: the deeds that may be done in a standing, what one makes of it, and runs of them."""

from copyclerk.deeds import do_deed, may_be_done
from copyclerk.errors import NoDeed
from copyclerk.hall import Hall, comers
from copyclerk.standings import start


def may(table, standing, order=True):
    hall = Hall(standing)
    deeds = []
    for hand, line in enumerate(hall.lines):
        deeds.extend(asks_of(hand))
        deeds.extend(letters_of("take", hand, line.to, order))
        deeds.extend(letters_of("get", hand, line.back, order))
    return [deed for deed in deeds if may_be_done(table, hall, deed)]


def asks_of(hand):
    return [("ask", hand, "read"), ("ask", hand, "write", 0), ("ask", hand, "drop")]


def letters_of(word, hand, way, order):
    return [(word, hand, number) for number in range(len(comers(way, order)))]


def stuck(table, standing, order=True):
    if not any([line[3] + line[4] for line in standing[3]]):
        return False
    return all([deed[0] == "ask" for deed in may(table, standing, order)])


def step(table, standing, deed):
    hall = Hall(standing)
    if not may_be_done(table, hall, deed):
        raise NoDeed("this deed may not be done here")
    do_deed(table, hall, deed)
    if hall.broken is not None:
        return (standing, None, hall.broken)
    return (hall.as_tuple(), hall.answer, None)


def play(table, many, deeds):
    standing = start(table, many)
    answers = []
    for deed in deeds:
        told = step(table, standing, deed)
        if told[2] is not None:
            return (standing, answers, told[2])
        standing = told[0]
        if told[1] is not None:
            answers.append(told[1])
    return (standing, answers, None)

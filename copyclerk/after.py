"""After: what one deed makes of a shape, for each config in it and each deed that a line of it may do."""

from copyclerk.crowd import Crowd, do_ask_of_picked, do_get_of_picked, do_take_of_picked
from copyclerk.hall import SHARES, comers
from copyclerk.shapes import may_clash, waits
from copyclerk.tables import ASKS, hand_row, house_row


def after(table, shape, order=True):
    told = []
    for config, count in shape[2]:
        rest = rest_behind(shape[2], config, count)
        for word in words_of(table, shape[0], config, order):
            for row, left in ways_to_go(table, shape[0], word, rest):
                told.extend(behind_row(table, shape, word, row, left))
    return sorted(set(told))


def rest_behind(pairs, picked, count):
    others = tuple([pair for pair in pairs if pair[0] != picked])
    return others if count == "one" else others + ((picked, "any"),)


def words_of(table, state, config, order):
    asks = [("ask", config, event) for event in ASKS if hand_row(table, config[0], event) is not None]
    takes = [("take", config, number) for number in range(len(comers(config[2], order)))]
    back = comers(config[3], order)
    gets = [("get", config, number) for number, letter in enumerate(back) if not waits(table, state, letter)]
    return asks + takes + gets


def ways_to_go(table, state, word, rest):
    config = word[1]
    if word[0] == "ask":
        return [(hand_row(table, config[0], word[2]), rest)]
    if word[0] == "take":
        return [(hand_row(table, config[0], config[2][word[2]][0]), rest)]
    kind = config[3][word[2]][0]
    last = house_row(table, state, kind, True)
    more = house_row(table, state, kind, False)
    # Alike they are the row of any, or there is none at all.
    if last == more:
        return [(last, rest)]
    return ways_by_sharers(last, more, rest)


def ways_by_sharers(last, more, rest):
    sharers = [(config, count) for config, count in rest if config[4] & SHARES]
    if any([count != "any" for config, count in sharers]):
        return [(more, rest)]
    ways = [(last, tuple([pair for pair in rest if pair not in sharers]))]
    for sharer in sharers:
        ways.append((more, tuple([(sharer[0], "some") if pair == sharer else pair for pair in rest])))
    return ways


def behind_row(table, shape, word, row, rest):
    if row is None:
        return [(word, "norow", ())]
    crowd = Crowd(shape, word[1], rest)
    if word[0] == "ask":
        do_ask_of_picked(crowd, row)
    elif word[0] == "take":
        do_take_of_picked(crowd, word[2], row)
    else:
        do_get_of_picked(crowd, word[2], row)
    return told_of(table, crowd, word)


def told_of(table, crowd, word):
    told = []
    if crowd.overflows:
        told.append((word, "full", ()))
    if crowd.hall.broken is not None:
        told.append((word, crowd.hall.broken[0], ()))
        return told
    shape = crowd.as_shape()
    told.append((word, "", shape))
    if may_clash(table, shape):
        told.append((word, "clash", ()))
    return told

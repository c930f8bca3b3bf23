"""Deeds: whether one may be done in a hall, and how it is done there."""

from copyclerk.hall import OWNS, SHARES
from copyclerk.standings import clash
from copyclerk.tables import ASKS, hand_row, house_row, is_wait


def may_be_done(table, hall, deed):
    if deed[1] < 0 or deed[1] >= len(hall.lines):
        return False
    if deed[0] == "ask":
        return deed[2] in ASKS and row_for_deed(table, hall, deed) is not None
    if deed[2] < 0 or deed[2] >= len(way_of(hall, deed)):
        return False
    # A letter without a row may come: that it has none shows only as it does.
    return not is_wait(row_for_deed(table, hall, deed))


def way_of(hall, deed):
    line = hall.lines[deed[1]]
    return line.to if deed[0] == "take" else line.back


def row_for_deed(table, hall, deed):
    state = hall.lines[deed[1]].state
    if deed[0] == "ask":
        return hand_row(table, state, deed[2])
    kind = way_of(hall, deed)[deed[2]][0]
    if deed[0] == "take":
        return hand_row(table, state, kind)
    return house_row(table, hall.state, kind, not hall.other_sharers(deed[1]))


def do_deed(table, hall, deed):
    row = row_for_deed(table, hall, deed)
    if row is None:
        hall.broken = ("norow",)
        return
    if deed[0] == "ask":
        do_ask(hall, deed, row)
    elif deed[0] == "take":
        do_take(hall, deed, row)
    else:
        do_get(hall, deed, row)
    if hall.broken is None and clash(table, hall.as_tuple()):
        hall.broken = ("clash",)


def do_ask(hall, deed, row):
    if deed[2] == "write":
        line = hall.lines[deed[1]]
        line.want = deed[3]
    do_hand_row(hall, deed[1], None, row)


def do_take(hall, deed, row):
    line = hall.lines[deed[1]]
    value = line.to[deed[2]][1]
    line.to = without(line.to, deed[2])
    do_hand_row(hall, deed[1], value, row)


def do_get(hall, deed, row):
    do_house_row(hall, deed[1], got_value(hall, deed, row), row)


def got_value(hall, deed, row):
    line = hall.lines[deed[1]]
    value = line.back[deed[2]][1]
    if ("stay",) not in row[-1]:
        line.back = without(line.back, deed[2])
    return value


def without(way, number):
    return way[:number] + way[number + 1:]


def do_hand_row(hall, hand, value, row):
    for act in row[-1]:
        do_hand_act(hall, hand, value, act)
        if hall.broken is not None:
            return
    line = hall.lines[hand]
    line.state = row[-2]


def do_hand_act(hall, hand, value, act):
    line = hall.lines[hand]
    if act[0] == "keep":
        line.value = value
    elif act[0] == "lose":
        line.value = None
    elif act[0] == "put":
        hall.write_value(hand)
    elif act[0] == "tell":
        hall.tell_value(hand)
    else:
        hall.send_to_house(hand, act[1], act[2])


def do_house_row(hall, sender, value, row):
    for act in row[-1]:
        do_house_act(hall, sender, value, act)
        if hall.broken is not None:
            return
    hall.state = row[-2]


def do_house_act(hall, sender, value, act):
    line = hall.lines[sender]
    if act[0] == "keep":
        hall.store = value
    elif act[0] == "own":
        line.flags = line.flags | OWNS
    elif act[0] == "share":
        line.flags = line.flags | SHARES
    elif act[0] == "forget":
        line.flags = 0
    elif act[0] == "clear":
        hall.forget_all()
    elif act[0] != "stay":
        send_from_house(hall, sender, act)


def send_from_house(hall, sender, act):
    for hand in receivers(hall, sender, act[0]):
        hall.send_to_hand(hand, act[1], act[2])


def receivers(hall, sender, word):
    if word == "send":
        return [sender]
    if word == "owner":
        return hall.hands_with(OWNS)
    return hall.other_sharers(sender)

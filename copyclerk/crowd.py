"""The crowd: a shape laid open, one line picked out of it, so that the acts of a deed can change it one by one."""

from copyclerk.deeds import do_hand_row, do_house_act, do_take, got_value
from copyclerk.hall import OWNS, SHARES, WAY_HOLDS, Hall
from copyclerk.shapes import config_of, letter_mark, mark_of, together
from copyclerk.standings import THIN_LAST, THIN_OLD

PICKED = 0


class Crowd:
    # The picked line is the one line of a hall, so that what it does is done as in a step.
    def __init__(self, shape, config, rest):
        self.hall = Hall((shape[0], value_of(shape[1]), THIN_LAST, (line_of(config),)))
        self.rest = rest
        self.overflows = False

    def as_shape(self):
        hall = self.hall
        picked = config_of(hall.lines[PICKED].as_tuple(), hall.last)
        return (hall.state, mark_of(hall.store, hall.last), together(self.rest + ((picked, "one"),)))

    def age_rest(self):
        self.rest = together([(aged(config), count) for config, count in self.rest])

    def clear_rest(self):
        self.rest = together([(config[:4] + (0,), count) for config, count in self.rest])

    def send_to_rest(self, flag, kind, load):
        hall = self.hall
        letter = (kind, letter_mark(hall.store, hall.last) if load == "value" else "bare")
        rest = []
        for config, count in self.rest:
            if not config[4] & flag:
                rest.append((config, count))
            elif len(config[2]) < WAY_HOLDS:
                rest.append((with_letter(config, letter), count))
            elif count == "any":
                self.overflows = True
            else:
                hall.broken = ("full",)
        self.rest = together(rest)


def line_of(config):
    return (config[0], value_of(config[1]), 0, valued_way(config[2]), valued_way(config[3]), config[4])


def valued_way(way):
    return tuple([(kind, value_of(mark)) for kind, mark in way])


def value_of(mark):
    if mark == "last":
        return THIN_LAST
    return THIN_OLD if mark == "old" else None


def with_letter(config, letter):
    return config[:2] + (config[2] + (letter,),) + config[3:]


def aged(config):
    return (config[0], aged_mark(config[1]), aged_way(config[2]), aged_way(config[3]), config[4])


def aged_way(way):
    return tuple([(kind, aged_mark(mark)) for kind, mark in way])


def aged_mark(mark):
    return "old" if mark == "last" else mark


def do_ask_of_picked(crowd, row):
    do_hand_row(crowd.hall, PICKED, None, row)
    age_behind_put(crowd)


def do_take_of_picked(crowd, number, row):
    do_take(crowd.hall, ("take", PICKED, number), row)
    age_behind_put(crowd)


def age_behind_put(crowd):
    # A hand's acts ask nothing of the rest, so it can age behind them all.
    if crowd.hall.last != THIN_LAST:
        crowd.age_rest()


def do_get_of_picked(crowd, number, row):
    hall = crowd.hall
    value = got_value(hall, ("get", PICKED, number), row)
    for act in row[-1]:
        do_house_act(hall, PICKED, value, act)
        do_act_upon_rest(crowd, act)
        if hall.broken is not None:
            return
    hall.state = row[-2]


def do_act_upon_rest(crowd, act):
    if act[0] == "owner":
        crowd.send_to_rest(OWNS, act[1], act[2])
    elif act[0] == "others":
        crowd.send_to_rest(SHARES, act[1], act[2])
    elif act[0] == "clear":
        crowd.clear_rest()

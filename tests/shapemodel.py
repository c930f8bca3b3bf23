"""A second teller of shapes, by marks and counts alone, that the package's shapes and after are held against."""

import itertools
from collections import Counter

from tests.model import find_hand_row

LAST = (4, 7)
VALUES = {"none": None, "bare": None, "last": LAST, "old": (2, -3)}
WAIT = (("wait",),)


def fits(count, number):
    return {"one": number == 1, "some": number >= 1, "any": True}[count]


def model_mark(value, last):
    return "none" if value is None else ("old", "last")[value[0] == last[0]]


def model_config(line, last):
    ways = [tuple((kind, "bare" if value is None else model_mark(value, last)) for kind, value in way)
            for way in line[3:5]]
    return (line[0], model_mark(line[1], last), *ways, line[5])


def model_lies_in(standing, shape):
    state, store, last, lines = standing
    numbers = Counter(model_config(line, last) for line in lines)
    return (shape[:2] == (state, model_mark(store, last))
            and set(numbers) <= {config for config, count in shape[2]}
            and all(fits(count, numbers[config]) for config, count in shape[2]))


def line_in(config):
    state, mark, to, back, flags = config
    ways = [tuple((kind, VALUES[borne]) for kind, borne in way) for way in (to, back)]
    return (state, VALUES[mark], 0, *ways, flags)


def all_standings(shape, most=2):
    """Each standing with none to most lines of each config, whether or not the number fits the count."""
    state, mark, pairs = shape
    for numbers in itertools.product(range(most + 1), repeat=len(pairs)):
        lines = [line_in(config) for number, (config, count) in zip(numbers, pairs) for _ in range(number)]
        yield (state, VALUES[mark], LAST, tuple(lines))


def standings_in(shape, most=2):
    return [standing for standing in all_standings(shape, most) if model_lies_in(standing, shape)]


def joined(pairs):
    counts = {}
    for config, count in pairs:
        counts.setdefault(config, []).append(count)
    return [(config, found[0] if len(found) == 1 else "any" if set(found) == {"any"} else "some")
            for config, found in counts.items()]


def house_rows(table, state, kind):
    return {row[3]: row for row in table[2] if row[0] == "house" and row[1:3] == (state, kind)}


def model_words(table, shape, config, order):
    for event in ("drop", "read", "write"):
        if find_hand_row(table, config[0], event):
            yield ("ask", config, event)
    for word, way in (("take", config[2]), ("get", config[3])):
        for k in range(min(len(way), 1) if order else len(way)):
            rows = house_rows(table, shape[0], way[k][0])
            if word == "take" or rows.get("any", (None,))[-1] != WAIT:
                yield (word, config, k)


def model_ways(table, shape, word, rest):
    """Pairs of a row, or None, and the rest as it is then."""
    name, config, what = word
    if name == "ask":
        return [(find_hand_row(table, config[0], what), rest)]
    if name == "take":
        return [(find_hand_row(table, config[0], config[2][what][0]), rest)]
    rows = house_rows(table, shape[0], config[3][what][0])
    if "any" in rows or not rows:
        return [(rows.get("any"), rest)]
    sharers = [other for other, count in rest if other[4] in (1, 3)]
    if not sharers:
        return [(rows.get("last"), rest)]
    if {count for other, count in rest if other in sharers} != {"any"}:
        return [(rows.get("more"), rest)]
    ways = [(rows.get("last"), [pair for pair in rest if pair[0] not in sharers])]
    for sharer in sharers:
        ways.append((rows.get("more"), [(other, "some" if other == sharer else count) for other, count in rest]))
    return ways


def grown_old(config):
    def older(mark):
        return "old" if mark == "last" else mark
    state, mark, to, back, flags = config
    ways = [tuple((kind, older(borne)) for kind, borne in way) for way in (to, back)]
    return (state, older(mark), *ways, flags)


class Broken(Exception):
    pass


class World:
    def __init__(self, shape, config, rest):
        self.house, self.store = shape[:2]
        self.state, self.mark, self.to, self.back, self.flags = config
        self.rest = rest
        self.came = "bare"
        self.faults = set()

    def config(self):
        return (self.state, self.mark, self.to, self.back, self.flags)

    def change(self, changed):
        self.rest = joined((changed(config), count) for config, count in self.rest)

    def shape(self):
        return (self.house, self.store, tuple(sorted(joined(self.rest + [(self.config(), "one")]))))

    def post(self, way, kind, mark, load):
        if len(way) == 2:
            raise Broken("full")
        return way + ((kind, "bare" if load == "bare" or mark == "none" else mark),)

    def kept(self):
        return "none" if self.came == "bare" else self.came

    def take_off(self, word, k, stays):
        if word == "take":
            self.came = self.to[k][1]
            self.to = tuple(letter for number, letter in enumerate(self.to) if number != k)
        else:
            self.came = self.back[k][1]
            self.back = tuple(letter for number, letter in enumerate(self.back) if number != k or stays)

    def act_of_hand(self, act):
        match act:
            case ("keep",):
                self.mark = self.kept()
            case ("lose",):
                self.mark = "none"
            case ("tell",):
                if self.mark != "last":
                    raise Broken("old")
            case ("put",):
                state, mark, self.to, self.back, flags = grown_old(self.config())
                self.mark = "last"
                self.store = "old" if self.store == "last" else self.store
                self.came = "old" if self.came == "last" else self.came
                self.change(grown_old)
            case ("send", kind, load):
                self.back = self.post(self.back, kind, self.mark, load)

    def act_of_house(self, act):
        match act:
            case ("keep",):
                self.store = self.kept()
            case ("send", kind, load):
                self.to = self.post(self.to, kind, self.store, load)
            case ("owner", kind, load):
                if self.flags in (2, 3):
                    self.to = self.post(self.to, kind, self.store, load)
                self.post_to_all((2, 3), kind, load)
            case ("others", kind, load):
                self.post_to_all((1, 3), kind, load)
            case ("own",):
                self.flags = {0: 2, 1: 3, 2: 2, 3: 3}[self.flags]
            case ("share",):
                self.flags = {0: 1, 1: 1, 2: 3, 3: 3}[self.flags]
            case ("forget",):
                self.flags = 0
            case ("clear",):
                self.flags = 0
                self.change(lambda config: (*config[:4], 0))

    def post_to_all(self, flags, kind, load):
        crammed = [(config, count) for config, count in self.rest if config[4] in flags and len(config[2]) == 2]
        if {count for config, count in crammed} & {"one", "some"}:
            raise Broken("full")
        if crammed:
            self.faults.add("full")
            self.rest = [pair for pair in self.rest if pair not in crammed]

        def sent(config):
            if config[4] not in flags:
                return config
            state, mark, to, back, its = config
            return (state, mark, self.post(to, kind, self.store, load), back, its)

        self.change(sent)


def model_behind(table, shape, word, row, rest):
    """The pairs (fault, shape) that come of one way to go."""
    if row is None:
        return {("norow", ())}
    world = World(shape, word[1], rest)
    if word[0] != "ask":
        world.take_off(word[0], word[2], ("stay",) in row[-1])
    try:
        for act in row[-1]:
            (world.act_of_house if word[0] == "get" else world.act_of_hand)(act)
    except Broken as broken:
        return {(fault, ()) for fault in world.faults | {broken.args[0]}}
    if word[0] == "get":
        world.house = row[-2]
    else:
        world.state = row[-2]
    told = {(fault, ()) for fault in world.faults} | {("", world.shape())}
    return told | ({("clash", ())} if model_may_clash(table, world.shape()) else set())


def model_may_clash(table, shape):
    """By one or two lines of each config, as the counts allow."""
    rights = dict(table[0])
    lines = [rights.get(config[0], "none") for config, count in shape[2] for _ in range(1 if count == "one" else 2)]
    return "write" in lines and sum(right != "none" for right in lines) > 1


def model_after(table, shape, order):
    told = set()
    for place, (config, count) in enumerate(shape[2]):
        rest = [pair for number, pair in enumerate(shape[2]) if number != place]
        rest += [] if count == "one" else [(config, "any")]
        for word in model_words(table, shape, config, order):
            for row, left in model_ways(table, shape, word, rest):
                told |= {(word, fault, behind) for fault, behind in model_behind(table, shape, word, row, left)}
    return sorted(told)

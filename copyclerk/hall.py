"""The hall: a standing laid open, so that the acts of a deed can change it one by one."""

from copyclerk.standings import has_version_of

WAY_HOLDS = 2
SHARES = 1
OWNS = 2


class OpenLine:
    def __init__(self, line):
        self.state = line[0]
        self.value = line[1]
        self.want = line[2]
        self.to = line[3]
        self.back = line[4]
        self.flags = line[5]

    def as_tuple(self):
        return (self.state, self.value, self.want, self.to, self.back, self.flags)


class Hall:
    def __init__(self, standing):
        self.state = standing[0]
        self.store = standing[1]
        self.last = standing[2]
        self.lines = [OpenLine(line) for line in standing[3]]
        self.answer = None
        self.broken = None

    def as_tuple(self):
        lines = tuple([line.as_tuple() for line in self.lines])
        return (self.state, self.store, self.last, lines)

    def write_value(self, hand):
        line = self.lines[hand]
        self.last = (self.last[0] + 1, line.want)
        line.value = self.last
        self.answer = ("wrote", hand, line.want)

    def tell_value(self, hand):
        line = self.lines[hand]
        if line.value is None or not has_version_of(line.value, self.last):
            self.broken = ("old",)
        else:
            self.answer = ("read", hand, line.value[1])

    def send_to_house(self, hand, kind, load):
        line = self.lines[hand]
        line.back = self.posted(line.back, letter_of(kind, load, line.value))

    def send_to_hand(self, hand, kind, load):
        line = self.lines[hand]
        line.to = self.posted(line.to, letter_of(kind, load, self.store))

    def posted(self, way, letter):
        if len(way) >= WAY_HOLDS:
            self.broken = ("full",)
            return way
        return way + (letter,)

    def hands_with(self, flag):
        return [hand for hand, line in enumerate(self.lines) if line.flags & flag]

    def other_sharers(self, sender):
        return [hand for hand in self.hands_with(SHARES) if hand != sender]

    def forget_all(self):
        for line in self.lines:
            line.flags = 0


def comers(way, order):
    return way[:1] if order else way


def letter_of(kind, load, value):
    return (kind, value if load == "value" else None)

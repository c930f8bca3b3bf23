"""A second desk, by patterns and the models, that the package's desk is held against."""

import re

from tests.model import model_may, model_step, model_stuck
from tests.papermodel import model_checked, model_find_paper, model_find_run
from tests.paperreference import deed_of_row, reference_rows, shape_of_row
from tests.reference import reference_read
from tests.shapemodel import model_config, model_mark

ROWS = {
    "hands": "hands ([1-8])", "order": "order (yes|no)", "may": "may", "stuck": "stuck", "shape": "shape",
    "answers": "answers", "plain": "plain", "paper": "paper (0|[1-9][0-9]{0,3})",
    "run": "run ([1-8]) (0|[1-9][0-9]{0,3})",
}


class Refused(Exception):
    """Its first thing is the name of the class, its second one the number, where there is one."""


def config_words(config):
    state, mark, to, back, flags = config
    ways = ["+".join(f"{kind}.{borne}" for kind, borne in way) or "-" for way in (to, back)]
    return f"{state} {mark} {ways[0]} {ways[1]} {'-sox'[flags].replace('x', 'so')}"


def shape_words(shape):
    state, mark, pairs = shape
    lines = "; ".join(f"{config_words(config)} {count}" for config, count in pairs)
    return f"{state} {mark}: {lines}" if pairs else f"{state} {mark}"


def own_shape(standing):
    state, store, last, lines = standing
    configs = [model_config(line, last) for line in lines]
    return (state, model_mark(store, last), tuple(
        (config, "one" if configs.count(config) == 1 else "some") for config in sorted(set(configs))))


def fault_words(fault):
    match fault:
        case None:
            return "good"
        case (word, shape):
            return f"{word} / {shape_words(shape)}"
        case (word, shape, (deed, config, what), last):
            told = last if isinstance(last, str) else shape_words(last)
            return f"{word} / {shape_words(shape)} / {deed} {what} by {config_words(config)} / {told}"


def deed_words(deed):
    return " ".join(map(str, deed))


class ModelDesk:
    def __init__(self):
        self.table = None

    def say(self, row):
        if not isinstance(row, str):
            raise Refused("NoRow")
        if row.startswith("table\n"):
            return self.tell_table(row[6:])
        if self.table is None:
            raise Refused("NoRow")
        if row.startswith("check\n"):
            paper = reference_rows(row[6:], shape_of_row)
            if isinstance(paper, int):
                raise Refused("BadPaper", paper)
            return fault_words(model_checked(self.table, paper, self.order))
        deed = deed_of_row(row)
        if deed:
            return self.do(deed)
        for name, form in ROWS.items():
            found = re.fullmatch(form, row)
            if found:
                return getattr(self, "tell_" + name)(*found.groups())
        raise Refused("NoRow")

    def tell_table(self, text):
        table = reference_read(text)
        if isinstance(table, int):
            raise Refused("BadTable", table)
        self.table, self.order = table, True
        return self.tell_hands("1")

    def tell_hands(self, many):
        line = (self.table[0][0][0], None, 0, (), (), 0)
        self.standing = (self.table[1][0], (0, 0), (0, 0), (line,) * int(many))
        self.answers = []
        return "ok"

    def tell_order(self, word):
        self.order = word == "yes"
        return "ok"

    def do(self, deed):
        told = model_step(self.table, self.standing, deed)
        if told is None or self.order and deed[0] != "ask" and deed[2] > 0:
            raise Refused("NoDeed")
        self.standing, answer, broken = told
        if broken:
            return "broken " + broken[0]
        if answer:
            self.answers.append(answer)
        return deed_words(answer) if answer else "done"

    def tell_may(self):
        return ", ".join(map(deed_words, model_may(self.table, self.standing, self.order))) or "-"

    def tell_stuck(self):
        return "yes" if model_stuck(self.table, self.standing, self.order) else "no"

    def tell_shape(self):
        return shape_words(own_shape(self.standing))

    def tell_answers(self):
        return ", ".join(map(deed_words, self.answers)) or "-"

    def tell_plain(self):
        numbers = [0]
        for word, hand, number in self.answers:
            if word == "wrote":
                numbers.append(number)
            elif number != numbers[-1]:
                return "no"
        return "yes"

    def tell_paper(self, most):
        match model_find_paper(self.table, self.order, int(most)):
            case ("paper", shapes):
                return "\n".join(["paper", *map(shape_words, shapes)])
            case ("fault", fault):
                return "fault " + fault_words(fault)
        return "gave up"

    def tell_run(self, many, most):
        match model_find_run(self.table, int(many), self.order, int(most)):
            case ("run", deeds, (broken,)):
                return "\n".join(["run " + broken, *map(deed_words, deeds)])
            case ("none", came):
                return f"none {came}"
        return "gave up"

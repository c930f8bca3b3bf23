"""The desk: it is told rows, and answers each by a text."""

from copyclerk.desktext import check_text, found_paper_text, found_run_text, listed, yes_or_no
from copyclerk.errors import NoDeed, NoRow
from copyclerk.figures import is_number
from copyclerk.finder import find_paper, find_run
from copyclerk.papers import checked
from copyclerk.papertext import read_deed, read_paper, shape_text, spaced
from copyclerk.shapes import shape_of
from copyclerk.standings import start
from copyclerk.steps import may, step, stuck
from copyclerk.store import plain
from copyclerk.tabletext import read_table

MANIES = ("1", "2", "3", "4", "5", "6", "7", "8")
FIGURES_OF_MOST = 4


class Desk:
    def __init__(self):
        self.table = None
        self.order = True
        self.standing = None
        self.answers = []

    def say(self, row):
        if not isinstance(row, str):
            raise NoRow("what is told is no text")
        parts = row.partition("\n")
        if parts[:2] == ("table", "\n"):
            return self.lay_table(read_table(parts[2]))
        if self.table is None:
            raise NoRow("there is no table yet")
        if parts[:2] == ("check", "\n"):
            return check_text(checked(self.table, read_paper(parts[2]), self.order))
        deed = read_deed(row)
        if deed is not None:
            return self.do_written(deed)
        return self.say_words(row.split(" "))

    def lay_table(self, table):
        self.table = table
        self.order = True
        return self.begin(1)

    def begin(self, many):
        self.standing = start(self.table, many)
        self.answers = []
        return "ok"

    def do_written(self, deed):
        if self.order and deed[0] != "ask" and deed[2] != 0:
            raise NoDeed("where ways keep order, only the first letter may come")
        told = step(self.table, self.standing, deed)
        if told[2] is not None:
            return spaced(("broken", told[2][0]))
        self.standing = told[0]
        if told[1] is None:
            return "done"
        self.answers.append(told[1])
        return spaced(told[1])

    def say_words(self, words):
        if len(words) == 1:
            return self.tell_of_standing(words[0])
        if len(words) == 2 and words[0] == "order" and words[1] in ("yes", "no"):
            self.order = words[1] == "yes"
            return "ok"
        if len(words) == 2 and words[0] == "hands" and words[1] in MANIES:
            return self.begin(int(words[1]))
        return self.tell_found(words)

    def tell_of_standing(self, word):
        if word == "may":
            return listed(may(self.table, self.standing, self.order))
        if word == "stuck":
            return yes_or_no(stuck(self.table, self.standing, self.order))
        if word == "shape":
            return shape_text(shape_of(self.standing))
        if word == "answers":
            return listed(self.answers)
        if word == "plain":
            return yes_or_no(plain(self.answers))
        raise NoRow("there is no such row")

    def tell_found(self, words):
        if not is_number(words[-1], FIGURES_OF_MOST):
            raise NoRow("there is no such row")
        most = int(words[-1])
        if words[:-1] == ["paper"]:
            return found_paper_text(find_paper(self.table, self.order, most))
        if len(words) == 3 and words[0] == "run" and words[1] in MANIES:
            return found_run_text(find_run(self.table, int(words[1]), self.order, most))
        raise NoRow("there is no such row")

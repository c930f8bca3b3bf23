"""Short ways to tables, lines, standings, configs and shapes, and a check of steps, for several tests."""

import copy
import unittest

from copyclerk.steps import step
from copyclerk.tabletext import read_table

HEAD = ("hands idle none, wait none, look read, mine write", "houses home, out, busy")


def table_of(*rows):
    """A table of the hands idle, wait, look, mine and the houses home, out, busy."""
    return read_table("\n".join(HEAD + rows))


def line(state="idle", value=None, want=0, to=(), back=(), flags=0):
    return (state, value, want, to, back, flags)


def standing(*lines, state="home", store=(0, 0), last=(0, 0)):
    return (state, store, last, lines)


class StepCase(unittest.TestCase):
    """Each check makes sure, too, that what is handed in stays and that the kinds are as told."""

    def check_standing(self, told):
        self.assertIs(type(told), tuple)
        state, store, last, lines = told
        self.assertIs(type(state), str)
        self.check_value(store)
        self.check_value(last)
        self.assertIs(type(lines), tuple)
        for each in lines:
            self.check_line(each)

    def check_line(self, told):
        self.assertIs(type(told), tuple)
        state, value, want, to, back, flags = told
        self.assertIs(type(state), str)
        self.check_value(value)
        self.assertIs(type(want), int)
        for way in (to, back):
            self.assertIs(type(way), tuple)
            self.assertLessEqual(len(way), 2)
            for letter in way:
                self.assertIs(type(letter), tuple)
                kind, borne = letter
                self.assertIs(type(kind), str)
                self.check_value(borne)
        self.assertIs(type(flags), int)
        self.assertIn(flags, (0, 1, 2, 3))

    def check_value(self, value):
        if value is not None:
            self.assertIs(type(value), tuple)
            version, number = value
            self.assertIs(type(version), int)
            self.assertIs(type(number), int)

    def stepped(self, table, before, deed):
        kept = copy.deepcopy((table, before, deed))
        told = step(table, before, deed)
        self.assertEqual((table, before, deed), kept)
        self.assertIs(type(told), tuple)
        self.assertEqual(len(told), 3)
        self.check_standing(told[0])
        return told

    def check_done(self, table, before, deed, behind, answer=None):
        self.assertEqual(self.stepped(table, before, deed), (behind, answer, None))

    def check_breaks(self, table, before, deed, word):
        self.assertEqual(self.stepped(table, before, deed), (before, None, (word,)))


def config(state="idle", mark="none", to=(), back=(), flags=0):
    return (state, mark, to, back, flags)


def shape(*pairs, state="home", mark="last"):
    return (state, mark, tuple(sorted(pairs)))

"""A look at what after tells, for the tests of it."""

import copy
import unittest

from copyclerk.after import after
from tests.shapemodel import model_after

COUNTS = ("one", "some", "any")
MARKS = ("none", "last", "old")


class AfterCase(unittest.TestCase):
    """Each look at a list makes sure, too, that it is sorted, has each tuple once, and is what the model tells."""

    def told(self, table, within, *order):
        kept = copy.deepcopy((table, within))
        found = after(table, within, *order)
        self.assertEqual((table, within), kept)
        self.assertIs(type(found), list)
        self.assertEqual(found, sorted(set(found)))
        self.assertEqual(found, model_after(table, within, *(order or (True,))))
        for each in found:
            self.check_form(each)
        return found

    def check_form(self, told):
        self.assertIs(type(told), tuple)
        word, fault, behind = told
        self.assertIs(type(word), tuple)
        self.assertIn(word[0], ("ask", "take", "get"))
        self.assertIn(fault, ("", "clash", "full", "norow", "old"))
        if fault:
            self.assertEqual(behind, ())
            return
        state, mark, pairs = behind
        self.assertIs(type(pairs), tuple)
        self.assertEqual(list(pairs), sorted(pairs))
        configs = [each for each, count in pairs]
        self.assertEqual(len(configs), len(set(configs)))
        for each, count in pairs:
            self.assertIn(count, COUNTS)
            self.assertEqual([type(part) for part in each], [str, str, tuple, tuple, int])

    def words(self, table, within, *order):
        return [word for word, fault, behind in self.told(table, within, *order)]

    def check_word(self, table, within, word, *wanted):
        """Wanted are the faults and shapes told under the word, by order and else."""
        for order in (True, False):
            found = [each[1] or each[2] for each in self.told(table, within, order) if each[0] == word]
            self.assertEqual(sorted(found, key=repr), sorted(wanted, key=repr))

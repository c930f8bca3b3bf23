"""A desk beside a second one, for the tests of desks."""

import unittest

from copyclerk.desk import Desk
from copyclerk.errors import BadPaper, BadTable, CopyError, NoDeed, NoRow
from tests.deskmodel import ModelDesk, Refused

REFUSALS = {"NoRow": NoRow, "BadTable": BadTable, "BadPaper": BadPaper, "NoDeed": NoDeed}
PROBES = ("may", "stuck", "shape", "answers", "plain")


class DeskCase(unittest.TestCase):
    """Whatever is told to the desk is told to a second one, too, and both answer alike."""

    def setUp(self):
        self.desk, self.model = Desk(), ModelDesk()

    def say(self, row):
        """The desk's answer, or the name of the class of its refusal and its number."""
        with self.subTest(row=row):
            try:
                wanted = self.model.say(row)
            except Refused as refused:
                return self.check_refused(row, *refused.args)
            told = self.desk.say(row)
            self.assertIs(type(told), str)
            self.assertEqual(told, wanted)
            return told

    def check_refused(self, row, name, *number):
        ahead = self.probed()
        with self.assertRaises(REFUSALS[name]) as caught:
            self.desk.say(row)
        self.assertIs(type(caught.exception), REFUSALS[name])
        self.assertIsInstance(caught.exception, CopyError)
        self.assertIsInstance(caught.exception, ValueError)
        if number:
            self.assertIs(type(caught.exception.number), int)
            self.assertEqual((caught.exception.number,), number)
        self.assertEqual(self.probed(), ahead)
        return (name, *number)

    def probed(self):
        """What the desk tells of itself, by each row that changes nothing."""
        if self.model.table is None:
            return None
        return [self.desk.say(row) for row in PROBES]

    def check(self, *pairs):
        for row, wanted in pairs:
            self.assertEqual(self.say(row), wanted, row)

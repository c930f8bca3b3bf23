import copy
import unittest

from copyclerk.tables import hand_row, house_row, right_of
from tests.samples import EXAMPLE

READ = ("hand", "idle", "read", "idle", (("send", "ask", "bare"),))
WRITE = ("hand", "idle", "write", "mine", ())
DROP = ("hand", "mine", "drop", "idle", (("lose",),))
GIVEN = ("hand", "idle", "give", "mine", (("keep",),))
OTHER = ("hand", "mine", "give", "mine", (("lose",),))
ANY = ("house", "home", "ask", "any", "out", (("send", "give", "value"),))
LAST = ("house", "out", "ask", "last", "home", (("clear",),))
MORE = ("house", "out", "ask", "more", "out", (("forget",),))
ONLY_LAST = ("house", "home", "back", "last", "home", ())
ONLY_MORE = ("house", "out", "back", "more", "home", ())
WAITS = ("house", "out", "give", "any", "out", (("wait",),))
# The same words as a row of the house begins with, for a hand.
ALIKE = ("hand", "home", "ask", "home", (("tell",),))

HAND_ROWS = (READ, WRITE, DROP, GIVEN, OTHER, ALIKE)
HOUSE_ROWS = (ANY, LAST, MORE, ONLY_LAST, ONLY_MORE, WAITS)

TABLE = (
    (("idle", "none"), ("look", "read"), ("mine", "write"), ("home", "read")),
    ("home", "out", "look"),
    (MORE, READ, ALIKE, ANY, WRITE, ONLY_MORE, DROP, WAITS, GIVEN, LAST, OTHER, ONLY_LAST),
)
REVERSED = (TABLE[0], TABLE[1], TABLE[2][::-1])

STATES = ("idle", "look", "mine", "home", "out", "gone", "")
KINDS = ("read", "write", "drop", "give", "ask", "back", "any", "last", "more", "gone", "")


class Rights(unittest.TestCase):
    def test_a_right_of_each_sort(self):
        self.assertEqual(right_of(TABLE, "idle"), "none")
        self.assertEqual(right_of(TABLE, "look"), "read")
        self.assertEqual(right_of(TABLE, "mine"), "write")
        self.assertEqual(right_of(TABLE, "home"), "read")

    def test_a_state_of_the_house_alone_has_none(self):
        table = ((("idle", "write"),), ("home",), ())
        self.assertEqual(right_of(table, "home"), "none")

    def test_a_state_that_is_not_the_tables_has_none(self):
        for state in ("gone", "", "write", "read", "none"):
            with self.subTest(state=state):
                self.assertEqual(right_of(TABLE, state), "none")

    def test_states_called_like_rights(self):
        table = ((("none", "write"), ("write", "read"), ("read", "none")), ("home",), ())
        self.assertEqual([right_of(table, state) for state in ("none", "write", "read")],
                         ["write", "read", "none"])


class HandRows(unittest.TestCase):
    def test_rows_for_asks_and_for_kinds(self):
        for table in (TABLE, REVERSED):
            self.assertEqual(hand_row(table, "idle", "read"), READ)
            self.assertEqual(hand_row(table, "idle", "write"), WRITE)
            self.assertEqual(hand_row(table, "mine", "drop"), DROP)
            self.assertEqual(hand_row(table, "idle", "give"), GIVEN)
            self.assertEqual(hand_row(table, "mine", "give"), OTHER)
            self.assertEqual(hand_row(table, "home", "ask"), ALIKE)

    def test_each_row_or_none(self):
        wanted = {row[1:3]: row for row in HAND_ROWS}
        for table in (TABLE, REVERSED):
            for state in STATES:
                for event in KINDS:
                    with self.subTest(state=state, event=event):
                        self.assertEqual(hand_row(table, state, event), wanted.get((state, event)))

    def test_none_in_a_table_without_rows(self):
        self.assertIsNone(hand_row((TABLE[0], TABLE[1], ()), "idle", "read"))


class HouseRows(unittest.TestCase):
    def test_any_whether_the_sender_is_the_last_one_or_not(self):
        for table in (TABLE, REVERSED):
            for last in (True, False):
                self.assertEqual(house_row(table, "home", "ask", last), ANY)
                self.assertEqual(house_row(table, "out", "give", last), WAITS)

    def test_last_and_more_by_the_sender(self):
        for table in (TABLE, REVERSED):
            self.assertEqual(house_row(table, "out", "ask", True), LAST)
            self.assertEqual(house_row(table, "out", "ask", False), MORE)

    def test_only_last_or_only_more(self):
        for table in (TABLE, REVERSED):
            self.assertEqual(house_row(table, "home", "back", True), ONLY_LAST)
            self.assertIsNone(house_row(table, "home", "back", False))
            self.assertIsNone(house_row(table, "out", "back", True))
            self.assertEqual(house_row(table, "out", "back", False), ONLY_MORE)

    def test_each_row_or_none(self):
        wanted = {}
        for row in HOUSE_ROWS:
            for last, when in ((True, "last"), (False, "more")):
                if row[3] in ("any", when):
                    wanted[row[1], row[2], last] = row
        for table in (TABLE, REVERSED):
            for state in STATES:
                for kind in KINDS:
                    for last in (True, False):
                        with self.subTest(state=state, kind=kind, last=last):
                            self.assertEqual(house_row(table, state, kind, last),
                                             wanted.get((state, kind, last)))

    def test_none_in_a_table_without_rows(self):
        self.assertIsNone(house_row((TABLE[0], TABLE[1], ()), "home", "ask", True))


class Unchanged(unittest.TestCase):
    def test_asking_changes_no_table(self):
        for table in (TABLE, EXAMPLE):
            before = copy.deepcopy(table)
            for _ in range(2):
                self.assertEqual(right_of(table, table[0][0][0]), table[0][0][1])
                for row in table[2]:
                    if row[0] == "hand":
                        self.assertEqual(hand_row(table, row[1], row[2]), row)
                    else:
                        self.assertEqual(house_row(table, row[1], row[2], row[3] != "more"), row)
            self.assertEqual(table, before)


if __name__ == "__main__":
    unittest.main()

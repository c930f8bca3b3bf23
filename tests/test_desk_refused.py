"""What a desk refuses, with which class, and that what is refused changes nothing."""

import copy
import unittest

from copyclerk.desk import Desk
from copyclerk.errors import BadPaper, BadTable, CopyError, NoDeed, NoRow
from tests.builders import HEAD
from tests.deskcase import PROBES, DeskCase
from tests.goodtables import CALLING_TEXT, EMPTY_TEXT
from tests.samples import EXAMPLE_TEXT

NO_TEXTS = (None, 0, 1, True, False, [], ["may"], (), ("may",), {}, [("ask", 0, "read")])
GOOD_ROWS = ("may", "stuck", "shape", "answers", "plain", "hands 1", "hands 8", "order yes", "order no", "paper 5",
             "run 1 5", "ask 0 read", "ask 0 write 5", "ask 0 drop", "take 0 0", "get 0 0", "check\n",
             "check\nhome last: idle none - - - any")


class Refusals(DeskCase):
    def refused(self, row, name="NoRow", *number):
        kept = copy.deepcopy(row)
        self.assertEqual(self.say(row), (name, *number), row)
        self.assertEqual(row, kept)


class AheadOfATable(Refusals):
    def test_each_row_but_table(self):
        for row in GOOD_ROWS:
            self.refused(row)

    def test_rows_that_are_refused_otherwise_later_on(self):
        for row in ("check\nbad", "take 0 7", "ask 9 read", "hands 0", "", "gone"):
            self.refused(row)

    def test_what_is_no_text(self):
        for thing in NO_TEXTS:
            self.refused(thing)

    def test_a_bad_table(self):
        self.refused("table\n", "BadTable", 0)
        self.refused("table\nhands idle none", "BadTable", 1)
        self.refused("table")
        # Behind these there is still no table.
        for row in GOOD_ROWS:
            self.refused(row)
        self.check(("table\n" + EXAMPLE_TEXT, "ok"), ("may", "ask 0 write 0"))


class BehindATable(Refusals):
    def setUp(self):
        super().setUp()
        self.check(("table\n" + CALLING_TEXT, "ok"), ("hands 2", "ok"), ("order no", "ok"), ("ask 0 write 4", "done"),
                   ("get 0 0", "done"), ("take 0 0", "wrote 0 4"), ("ask 1 write 5", "done"))
        self.ahead = [self.say(row) for row in PROBES]

    def tearDown(self):
        # Whatever was refused, the desk goes on where it was.
        self.assertEqual([self.say(row) for row in PROBES], self.ahead)
        self.check(("get 1 0", "done"), ("take 0 0", "done"), ("ask 0 write 7", "done"), ("get 0 0", "done"),
                   ("get 1 0", "done"), ("answers", "wrote 0 4"))

    def test_what_is_no_text(self):
        for thing in NO_TEXTS:
            self.refused(thing)

    def test_rows_that_are_none(self):
        for row in ("", " ", "\n", "gone", "May", "MAY", "mays", "help", "-", "ok", "yes", "table", "check", "paper",
                    "run", "hands", "order", "ask", "take", "get", "read", "write", "drop", "read 0 5", "wrote 0 4",
                    "done", "play", "step 0", "quit", "clash", "deeds", "standing", "0", "table ok", "good",
                    "home last: idle none - - - any", "hands idle none", "houses home", "hand idle read -> idle"):
            self.refused(row)

    def test_words_more(self):
        for row in GOOD_ROWS:
            if not row.startswith("check"):
                for more in (" 0", " yes", " may", " 1 2", " -"):
                    self.refused(row + more)

    def test_words_fewer(self):
        for row in ("hands", "order", "paper", "run", "run 1", "run 5", "ask", "ask 0", "ask 0 write", "take", "take 0",
                    "get", "get 0", "0 0", "yes", "1 5"):
            self.refused(row)

    def test_blanks_and_line_feeds(self):
        for row in GOOD_ROWS:
            if not row.startswith("check"):
                for edited in (" " + row, row + " ", row + "\n", "\n" + row, row + "\n" + row, row.replace(" ", "\n"),
                               row.replace(" ", "  "), row.replace(" ", "\t"), row + "\nhome last"):
                    if edited != row:
                        self.refused(edited)
        for row in (" table\n" + EXAMPLE_TEXT, "table \n" + EXAMPLE_TEXT, "table " + EXAMPLE_TEXT,
                    "table" + EXAMPLE_TEXT, "\ntable\n" + EXAMPLE_TEXT, "Table\n" + EXAMPLE_TEXT,
                    "tables\n" + EXAMPLE_TEXT, " check\nhome last", "check \nhome last", "check home last",
                    "checkhome last", "\ncheck\nhome last", "Check\nhome last", "check\thome last",
                    "checks\nhome last"):
            self.refused(row)

    def test_numbers_of_hands(self):
        for many in ("0", "9", "10", "80", "01", "08", "-1", "+1", "a", "", "1.0", "one", "1 ", "00", "1_", "18"):
            self.refused(f"hands {many}")
            self.refused(f"run {many} 5")

    def test_bounds(self):
        for most in ("-1", "-0", "00", "01", "0005", "10000", "99999", "+1", "a", "", "1.0", "5 ", "1_0", "1e3",
                     "most"):
            self.refused(f"paper {most}")
            self.refused(f"run 1 {most}")

    def test_orders(self):
        for word in ("", "Yes", "true", "1", "keep", "yes no", "yess", "y", "no yes"):
            self.refused(f"order {word}")

    def test_deeds_not_as_written(self):
        for row in ("ask 0", "ask 0 give", "ask 0 read 1", "ask 0 write", "ask 0 write x", "ask 0 write -0",
                    "ask 0 write 01", "ask 0 write 1 2", "ask 00 read", "ask 01 drop", "ask 100 read", "ask -1 read",
                    "ask a read", "take 0", "take 0 00", "take 0 -1", "take 0 100", "take 0 0 0", "get x 0", "get 0 x",
                    "ask 0 write " + "1" * 41, "ask 0 write -" + "1" * 41, "Take 0 0", "put 0 0", "tell 0 0"):
            self.refused(row)

    def test_deeds_that_may_not_be_done(self):
        for row in ("ask 1 read", "ask 1 drop", "ask 1 write 3", "ask 2 write 3", "ask 99 read", "take 0 0", "take 1 0",
                    "get 0 0", "get 1 1", "get 1 99", "take 99 99", "ask 0 drop", "ask 2 write " + "9" * 40):
            self.refused(row, "NoDeed")

    def test_by_the_order_kept(self):
        rows = ("hand idle read -> idle: send x bare, send y bare",)
        self.check(("\n".join(("table",) + HEAD + rows), "ok"), ("ask 0 read", "done"))
        self.refused("get 0 1", "NoDeed")
        self.check(("may", "ask 0 read, get 0 0"), ("order no", "ok"), ("get 0 1", "broken norow"))
        self.refused("get 0 2", "NoDeed")
        self.setUp()

    def test_bad_tables(self):
        rows = EXAMPLE_TEXT.split("\n")
        self.refused("table\n", "BadTable", 0)
        self.refused("table\n\n" + EXAMPLE_TEXT, "BadTable", 0)
        self.refused("table\n" + EXAMPLE_TEXT + "\n", "BadTable", len(rows))
        self.refused("table\n" + rows[0], "BadTable", 1)
        for number in range(len(rows)):
            bad = rows[:number] + [rows[number] + " "] + rows[number + 1:]
            self.refused("table\n" + "\n".join(bad), "BadTable", number)

    def test_bad_papers(self):
        rows = ["home last: idle none - - - any", "out old", "home none"]
        self.refused("check\n\n", "BadPaper", 0)
        self.refused("check\n" + "\n".join(rows) + "\n", "BadPaper", 3)
        self.refused("check\ncheck\nhome last", "BadPaper", 0)
        for number in range(3):
            for word in ("bad", "", rows[number] + " ", rows[number].replace("o", "0")):
                bad = rows[:number] + [word] + rows[number + 1:]
                self.refused("check\n" + "\n".join(bad), "BadPaper", number)


class Classes(unittest.TestCase):
    def test_each_alone(self):
        for row, refusal in (("gone", NoRow), ("take 0 0", NoDeed), ("check\nbad", BadPaper), ("table\nbad", BadTable)):
            for other in (NoRow, NoDeed, BadPaper, BadTable, CopyError, ValueError):
                desk = Desk()
                desk.say("table\n" + EMPTY_TEXT)
                try:
                    desk.say(row)
                except CopyError as error:
                    self.assertEqual(isinstance(error, other), other in (refusal, CopyError, ValueError))
                else:
                    self.fail(row)


if __name__ == "__main__":
    unittest.main()

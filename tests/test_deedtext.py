"""Deeds as texts: how they are written, read again, and refused."""

import copy
import itertools
import unittest

from copyclerk.errors import BadPaper
from copyclerk.finder import find_run
from copyclerk.papertext import deeds_text, read_deeds
from copyclerk.steps import may, play
from copyclerk.standings import start
from tests.goodtables import CALLING, LOOKING
from tests.paperreference import deed_of_row, reference_rows
from tests.samples import EXAMPLE
from tests.walks import made_table, walked

FORTY = 10 ** 40 - 1
GOOD = (("ask 3 read", ("ask", 3, "read")), ("get 0 1", ("get", 0, 1)))


class DeedCase(unittest.TestCase):
    def check_deed(self, deed, text):
        """Written and read, alone and beside others."""
        kept = copy.deepcopy(deed)
        for ahead, behind in itertools.product(range(3), repeat=2):
            deeds = [GOOD[0][1]] * ahead + [deed] + [GOOD[1][1]] * behind
            rows = [GOOD[0][0]] * ahead + [text] + [GOOD[1][0]] * behind
            self.assertEqual(deeds_text(deeds), "\n".join(rows))
            self.assertEqual(read_deeds("\n".join(rows)), deeds)
        self.assertEqual(deed, kept)
        self.assertEqual([type(part) for part in read_deeds(text)[0]], [type(part) for part in deed])

    def check_refused(self, text, number):
        with self.subTest(text=text):
            with self.assertRaises(BadPaper) as caught:
                read_deeds(text)
            self.assertIs(type(caught.exception), BadPaper)
            self.assertIs(type(caught.exception.number), int)
            self.assertEqual(caught.exception.number, number)

    def check_row_refused(self, row):
        for ahead, behind in itertools.product(range(3), repeat=2):
            rows = [GOOD[0][0]] * ahead + [row] + [GOOD[1][0]] * behind
            if "\n".join(rows):
                self.check_refused("\n".join(rows), ahead)


class Written(DeedCase):
    def test_each_form(self):
        self.check_deed(("ask", 0, "read"), "ask 0 read")
        self.check_deed(("ask", 1, "write", 5), "ask 1 write 5")
        self.check_deed(("ask", 2, "drop"), "ask 2 drop")
        self.check_deed(("take", 3, 0), "take 3 0")
        self.check_deed(("get", 4, 1), "get 4 1")

    def test_hands_of_one_and_two_figures(self):
        for hand in (0, 1, 9, 10, 19, 20, 90, 99):
            for deed, text in ((("ask", hand, "read"), f"ask {hand} read"), (("ask", hand, "drop"), f"ask {hand} drop"),
                               (("ask", hand, "write", 0), f"ask {hand} write 0"),
                               (("take", hand, 0), f"take {hand} 0"), (("get", hand, 1), f"get {hand} 1")):
                self.check_deed(deed, text)

    def test_letters_of_one_and_two_figures(self):
        for k in (0, 1, 2, 9, 10, 99):
            self.check_deed(("take", 0, k), f"take 0 {k}")
            self.check_deed(("get", 0, k), f"get 0 {k}")

    def test_numbers(self):
        for number in (0, 1, 7, 10, 100, 12345678901234567890, FORTY, 10 ** 39, -1, -9, -10, -100, -FORTY, -10 ** 39):
            self.check_deed(("ask", 0, "write", number), f"ask 0 write {number}")
        self.check_deed(("ask", 0, "write", FORTY), "ask 0 write " + "9" * 40)
        self.check_deed(("ask", 0, "write", -FORTY), "ask 0 write -" + "9" * 40)

    def test_none_one_and_several(self):
        for deeds, text in (([], ""), ([("get", 0, 0)], "get 0 0"),
                            ([("ask", 0, "write", -3), ("get", 0, 0), ("take", 0, 0)],
                             "ask 0 write -3\nget 0 0\ntake 0 0")):
            kept = copy.deepcopy(deeds)
            self.assertEqual(deeds_text(deeds), text)
            self.assertIs(type(deeds_text(deeds)), str)
            self.assertEqual(read_deeds(text), deeds)
            self.assertIs(type(read_deeds(text)), list)
            self.assertEqual(deeds, kept)

    def test_two_hundred(self):
        deeds = [("ask", number % 20, "write", number - 100) for number in range(200)]
        self.assertEqual(read_deeds(deeds_text(deeds)), deeds)

    def test_the_list_read_is_the_readers_own(self):
        for text in ("", "take 0 0"):
            first = read_deeds(text)
            kept = list(first)
            first.append("gone")
            self.assertEqual(read_deeds(text), kept)

    def test_runs(self):
        for table in (EXAMPLE, CALLING, LOOKING) + tuple(made_table(seed) for seed in range(10)):
            deeds = [deed for standing, deed in walked(table, 3, 1, length=60)]
            text = deeds_text(deeds)
            self.assertEqual(read_deeds(text), deeds)
            self.assertEqual(reference_rows(text, deed_of_row), deeds)
            self.assertEqual(play(table, 3, read_deeds(text)), play(table, 3, deeds))
        self.assertEqual(deeds_text(may(LOOKING, start(LOOKING, 2))),
                         "ask 0 read\nask 0 write 0\nask 1 read\nask 1 write 0")
        self.assertEqual(deeds_text(find_run(EXAMPLE, 2)[1]),
                         "ask 0 write 0\nget 0 0\ntake 0 0\nask 1 write 0")


class Refused(DeedCase):
    def test_hands(self):
        for hand in ("", "-", "-1", "-0", "00", "01", "09", "007", "100", "999", "1000", "a", "1a", "+1", "1.0", "0x1",
                     "1_0", "one", " 1", "x", "1x"):
            for row in (f"ask {hand} read", f"ask {hand} drop", f"ask {hand} write 1", f"take {hand} 0",
                        f"get {hand} 0"):
                self.check_row_refused(row)

    def test_letters(self):
        for k in ("", "-", "-1", "-0", "00", "01", "10 ", "100", "012", "a", "1a", "+1", "1.0", "1_0", "read", "0 0",
                  "1x"):
            self.check_row_refused(f"take 0 {k}")
            self.check_row_refused(f"get 0 {k}")

    def test_numbers(self):
        for number in ("", "-", "-0", "--1", "+1", "00", "01", "-01", "-00", "1.0", "1_000", "1e3", "a", "1a", "0x1",
                       " 1", "1 ", "1-", "- 1", "9" * 41, "-" + "9" * 41, "1" + "0" * 40, "0" * 40, "-" + "0" * 40,
                       "0" + "9" * 39, "-0" + "9" * 38, "1 1"):
            self.check_row_refused(f"ask 0 write {number}")

    def test_words(self):
        for row in ("", " ", "ask", "take", "get", "ask 0", "take 0", "get 0", "ask read", "0 read", "ask 0 write",
                    "ask 0 read 0", "ask 0 drop 0", "ask 0 reads", "ask 0 Read", "ask 0 give", "ask 0 0", "Ask 0 read",
                    "asks 0 read", "takes 0 0", "give 0 0", "take 0 0 0", "get 0 0 0", "take 0 read", "get 0 write 1",
                    "read 0 0", "wrote 0 0", "write 0 0", "ask 0 write 1 2", "ask 0 write read", "take", "done", "-",
                    "ask, 0 read", "ask 0, read", "0 ask read", "put 0 1", "may", "ask 0 drop drop"):
            self.check_row_refused(row)

    def test_blanks_and_other_signs(self):
        for good in ("ask 0 read", "ask 0 write 1", "ask 0 drop", "take 0 0", "get 0 0"):
            self.assertEqual(len(read_deeds(good)), 1)
            for row in (" " + good, good + " ", good.replace(" ", "  ", 1), good.replace(" ", "  "),
                        good.replace(" 0", "  0"), good.replace(" ", "\t"), good.replace(" ", ""), good + ",",
                        good + ";", good.replace(" ", "_"), good.upper()):
                self.check_row_refused(row)

    def test_empty_rows(self):
        self.check_row_refused("")
        self.check_refused("\n", 0)
        self.check_refused("take 0 0\n", 1)
        self.check_refused("\ntake 0 0", 0)
        self.check_refused("take 0 0\n\ntake 0 0", 1)

    def test_the_first_of_several(self):
        self.check_refused("take 0 0\ntake 0\nget 0 0\nget", 1)
        self.check_refused("bad\nbad", 0)
        self.check_refused("\n".join(["take 0 0"] * 199 + ["take 0"]), 199)

    def test_what_is_no_text(self):
        for thing in (None, 0, 1, True, False, [], ["take 0 0"], (), ("take", 0, 0), [("take", 0, 0)], {}):
            kept = copy.deepcopy(thing)
            self.check_refused(thing, 0)
            self.assertEqual(thing, kept)

    def test_other_texts_of_the_package(self):
        self.check_refused("home old", 0)
        self.check_refused("hands idle none\nhouses home", 0)


class Edited(DeedCase):
    def check_like_reference(self, text):
        wanted = reference_rows(text, deed_of_row)
        if type(wanted) is int:
            self.check_refused(text, wanted)
        else:
            self.assertEqual(read_deeds(text), wanted)
            self.assertEqual(deeds_text(wanted), text)

    def test_one_sign_more_less_or_other(self):
        for text in ("ask 10 read\ntake 9 0\nget 0 21\nask 0 drop", "ask 7 write -120\nask 0 write 0\nask 1 write 9",
                     "ask 1 write " + "8" * 40, "ask 1 write -" + "7" * 40, "ask 1 write " + "6" * 39):
            self.check_like_reference(text)
            for place in range(len(text) + 1):
                self.check_like_reference(text[:place] + text[place + 1:])
                for sign in "a 0159-+.\n":
                    self.check_like_reference(text[:place] + sign + text[place:])
                    self.check_like_reference(text[:place] + sign + text[place + 1:])

    def test_all_rows_of_few_words(self):
        words = ("ask", "take", "get", "read", "write", "drop", "0", "12", "-3", "")
        for many in range(5):
            for chosen in itertools.product(words, repeat=many):
                self.check_like_reference(" ".join(chosen))


if __name__ == "__main__":
    unittest.main()

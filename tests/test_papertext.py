"""Papers as texts: how they are written, read again, and refused."""

import copy
import itertools
import random
import unittest

from copyclerk.errors import BadPaper, CopyError
from copyclerk.finder import find_paper
from copyclerk.papers import checked
from copyclerk.papertext import paper_text, read_paper, shape_text
from copyclerk.shapes import shape_of, start_shape
from copyclerk.standings import start
from tests.builders import config, shape
from tests.goodtables import CALLING, KNOWING, LOOKING, good_ones
from tests.paperreference import reference_rows, shape_of_row
from tests.walks import made_shape, made_table, walked

EXAMPLE_ROW = "home old: idle none - - - any; mine last call.bare - o one"
EXAMPLE_SHAPE = ("home", "old", (
    (("idle", "none", (), (), 0), "any"), (("mine", "last", (("call", "bare"),), (), 2), "one")))
MARKS = ("none", "last", "old")
COUNTS = ("one", "some", "any")
BESIDE = "out none"


class TextCase(unittest.TestCase):
    def check_shape(self, told, text):
        """Written and read, alone and beside others."""
        kept = copy.deepcopy(told)
        self.assertEqual(shape_text(told), text)
        self.assertIs(type(shape_text(told)), str)
        for ahead, behind in itertools.product(range(3), repeat=2):
            paper = [("out", "none", ())] * ahead + [told] + [EXAMPLE_SHAPE] * behind
            rows = [BESIDE] * ahead + [text] + [EXAMPLE_ROW] * behind
            self.assertEqual(paper_text(paper), "\n".join(rows))
            self.assertEqual(read_paper("\n".join(rows)), paper)
        self.assertEqual(told, kept)

    def check_refused(self, text, number):
        with self.subTest(text=text):
            with self.assertRaises(BadPaper) as caught:
                read_paper(text)
            self.assertIs(type(caught.exception), BadPaper)
            self.assertIsInstance(caught.exception, CopyError)
            self.assertIs(type(caught.exception.number), int)
            self.assertEqual(caught.exception.number, number)

    def check_row_refused(self, row):
        """A row that is no shape, at any place; beside it the rows are good."""
        for ahead, behind in itertools.product(range(3), repeat=2):
            rows = [BESIDE, EXAMPLE_ROW][:ahead] + [row] + [EXAMPLE_ROW, BESIDE][:behind]
            # An only row without signs is the paper of no shapes.
            if "\n".join(rows):
                self.check_refused("\n".join(rows), ahead)

    def check_line_refused(self, line):
        self.check_row_refused("home old: " + line)


class Written(TextCase):
    def test_the_example(self):
        self.check_shape(EXAMPLE_SHAPE, EXAMPLE_ROW)

    def test_without_lines(self):
        for mark in MARKS:
            self.check_shape(("home", mark, ()), "home " + mark)

    def test_each_mark(self):
        for mark, other in itertools.product(MARKS, repeat=2):
            self.check_shape(shape((config(mark=mark), "any"), mark=other), f"home {other}: idle {mark} - - - any")

    def test_each_count(self):
        for count in COUNTS:
            self.check_shape(shape((config(), count)), f"home last: idle none - - - {count}")

    def test_each_flag(self):
        for flags, word in ((0, "-"), (1, "s"), (2, "o"), (3, "so")):
            self.check_shape(shape((config(flags=flags), "one")), f"home last: idle none - - {word} one")

    def test_each_letter_on_each_way(self):
        for mark in ("bare", "last", "old"):
            way = (("call", mark),)
            self.check_shape(shape((config(to=way), "one")), f"home last: idle none call.{mark} - - one")
            self.check_shape(shape((config(back=way), "one")), f"home last: idle none - call.{mark} - one")

    def test_ways_of_none_one_and_two(self):
        ways = (((), "-"), ((("a", "bare"),), "a.bare"), ((("b", "old"), ("a", "last")), "b.old+a.last"),
                ((("a", "old"), ("a", "old")), "a.old+a.old"))
        for (to, its), (back, other) in itertools.product(ways, repeat=2):
            self.check_shape(shape((config(to=to, back=back), "some")), f"home last: idle none {its} {other} - some")

    def test_several_lines(self):
        told = shape((config("look", "last", flags=1), "some"), (config(), "any"), (config("mine", "old"), "one"),
                     (config("look", "last", flags=3), "any"), state="out", mark="none")
        self.check_shape(told, "out none: idle none - - - any; look last - - s some; look last - - so any; "
                               "mine old - - - one")

    def test_lines_are_sorted_as_tuples_are(self):
        # By the words alone these would come in another order: - ahead of o ahead of s, 1 ahead of 2.
        for one, other in (("idle none - - s one", "idle none - - o one"),
                           ("idle none - - o one", "idle none - - so one"),
                           ("idle none a.bare - - one", "idle none a.bare+a.bare - - one"),
                           ("idle none a.old+b.old - - one", "idle none aa.bare - - one"),
                           ("a none - - so one", "aa none - - - one"),
                           ("idle last - - - one", "idle none - - - one"),
                           ("idle none - a.bare - one", "idle none a.bare - - one")):
            row = f"home last: {one}; {other}"
            self.check_shape(shape_of_row(row), row)
            self.check_row_refused(f"home last: {other}; {one}")

    def test_words_that_mean_something_elsewhere(self):
        for word in ("read", "write", "drop", "any", "one", "some", "none", "last", "old", "bare", "so", "o", "s"):
            self.check_shape((word, "old", ((config(word), "any"),)), f"{word} old: {word} none - - - any")
            if word not in ("read", "write", "drop"):
                self.check_shape(shape((config(to=((word, "old"),)), "one")),
                                 f"home last: idle none {word}.old - - one")

    def test_words_of_one_and_of_eight_letters(self):
        for word in ("a", "z", "abcdefgh", "zzzzzzzz"):
            self.check_shape((word, "old", ((config(word, back=((word, "bare"),)), "any"),)),
                             f"{word} old: {word} none - {word}.bare - any")

    def test_papers_of_none_one_and_several(self):
        for paper, text in (([], ""), ([EXAMPLE_SHAPE], EXAMPLE_ROW),
                            ([("a", "last", ()), EXAMPLE_SHAPE, ("a", "last", ())], f"a last\n{EXAMPLE_ROW}\na last")):
            self.assertEqual(paper_text(paper), text)
            self.assertEqual(read_paper(text), paper)
            self.assertIs(type(read_paper(text)), list)

    def test_the_form_of_what_is_read(self):
        told = read_paper(EXAMPLE_ROW)[0]
        self.assertEqual([type(part) for part in told], [str, str, tuple])
        for pair in told[2]:
            self.assertEqual([type(part) for part in pair], [tuple, str])
            self.assertEqual([type(part) for part in pair[0]], [str, str, tuple, tuple, int])
            for letter in pair[0][2] + pair[0][3]:
                self.assertEqual([type(part) for part in letter], [str, str])

    def test_the_list_read_is_the_readers_own(self):
        for text in ("", EXAMPLE_ROW):
            first = read_paper(text)
            kept = list(first)
            first.append("gone")
            self.assertEqual(read_paper(text), kept)

    def test_found_papers(self):
        for table, order in good_ones():
            paper = find_paper(table, order)[1]
            kept = copy.deepcopy(paper)
            text = paper_text(paper)
            self.assertEqual(read_paper(text), paper)
            self.assertEqual(paper_text(read_paper(text)), text)
            self.assertEqual(text, "\n".join(shape_text(each) for each in paper))
            self.assertEqual(paper, kept)
        self.assertIsNone(checked(LOOKING, read_paper(paper_text(find_paper(LOOKING)[1]))))

    def test_made_shapes(self):
        chance = random.Random(5)
        for many in range(60):
            paper = [made_shape(chance, many % 7) for _ in range(many % 5)]
            text = paper_text(paper)
            self.assertEqual(read_paper(text), paper)
            self.assertEqual(reference_rows(text, shape_of_row), paper)

    def test_shapes_of_standings(self):
        for seed in range(20):
            for standing, deed in walked(made_table(seed), 3, seed):
                told = shape_of(standing)
                self.assertEqual(read_paper(shape_text(told)), [told])
        for table in (CALLING, KNOWING):
            self.assertEqual(read_paper(shape_text(start_shape(table))), [start_shape(table)])
            self.assertEqual(shape_text(shape_of(start(table, 0))), "home last")


class Refused(TextCase):
    def test_words_that_are_none(self):
        for word in ("", "A", "Home", "abcdefghi", "a1", "a_b", "-", "a-b", "1", "a.b", "home,", "a+b", "~"):
            self.check_row_refused(f"{word} old")
            self.check_line_refused(f"{word} none - - - any")
            self.check_line_refused(f"idle none {word}.bare - - any")
            self.check_line_refused(f"idle none - {word}.bare - any")
            self.check_line_refused(f"idle none - a.bare+{word}.bare - any")

    def test_kinds_that_are_asks(self):
        for word in ("read", "write", "drop"):
            self.check_line_refused(f"idle none {word}.bare - - any")
            self.check_line_refused(f"idle none - a.old+{word}.old - any")

    def test_marks(self):
        for mark in ("bare", "any", "", "Last", "lasts", "las", "olds", "new", "-", "value", "0"):
            self.check_row_refused(f"home {mark}")
            self.check_row_refused(f"home {mark}: idle none - - - any")
            self.check_line_refused(f"idle {mark} - - - any")
        for mark in ("none", "any", "", "Last", "lasts", "bar", "bares", "new", "-", "value", "0"):
            self.check_line_refused(f"idle none a.{mark} - - any")
            self.check_line_refused(f"idle none - a.{mark} - any")
            self.check_line_refused(f"idle none a.bare+a.{mark} - - any")
            self.check_line_refused(f"idle none a.{mark}+a.bare - - any")

    def test_ways(self):
        for way in ("", "a", "a.bare+", "+a.bare", "a.bare++a.bare", "a.bare+a.bare+a.bare", "a.bare+-", "-+a.bare",
                    "--", "-.bare", "a..bare", "a.bare.old", ".bare", "a.", ".", "+", "a.bare,a.bare", "a.bare-",
                    "a.bare+a.bare+a.bare+a.bare", "a:bare", "a+bare", "s", "()"):
            self.check_line_refused(f"idle none {way} - - any")
            self.check_line_refused(f"idle none - {way} - any")

    def test_flags(self):
        for flags in ("os", "S", "O", "", "0", "1", "3", "ss", "oo", "s-", "-o", "s+o", "sos", "--", "none"):
            self.check_line_refused(f"idle none - - {flags} any")

    def test_counts(self):
        for count in ("", "none", "two", "Any", "anys", "1", "all", "-", "more", "last", "on"):
            self.check_line_refused(f"idle none - - - {count}")

    def test_words_too_many_and_too_few(self):
        for line in ("", "idle", "idle none", "idle none -", "idle none - -", "idle none - - -",
                     "idle none - - any", "idle none - - - - any", "idle none - - - any any",
                     "idle none - - - any one", "none - - - any", "idle - - - any"):
            self.check_line_refused(line)
        for row in ("", "home", "old", "home old old", "home old any", "home: idle none - - - any",
                    "home old idle none - - - any", "home home old"):
            self.check_row_refused(row)

    def test_lines_not_sorted(self):
        self.check_line_refused("mine none - - - any; idle none - - - any")
        self.check_line_refused("idle none - - s any; idle none - - - any")
        self.check_line_refused("idle none - - - any; mine none - - - any; look none - - - any")
        self.check_line_refused("idle none - - so any; idle none - - o any")

    def test_a_config_twice(self):
        for one, other in itertools.product(COUNTS, repeat=2):
            self.check_line_refused(f"idle none - - - {one}; idle none - - - {other}")
        self.check_line_refused("idle none - - - one; look none - - - any; look none - - - some")

    def test_signs_wrongly_set(self):
        good = "home old: idle none - a.bare - any; mine last - - o one"
        self.assertEqual(len(read_paper(good)), 1)
        for row in (good + ";", good + "; ", good + " ", " " + good, good + ":", good + ".", ";" + good,
                    good.replace(": ", ":"), good.replace(": ", " : "), good.replace(": ", ":  "),
                    good.replace(": ", " "), good.replace(": ", "; "), good.replace("; ", ";"),
                    good.replace("; ", " ; "), good.replace("; ", ";  "), good.replace("; ", ", "),
                    good.replace("; ", ": "), good.replace("; ", "; ; "), good.replace("home old", "home  old"),
                    good.replace("idle none", "idle  none"), good.replace("home old", "home, old"),
                    good.replace("- any", "-  any"), good.replace("a.bare", "a. bare"), good.replace(" ", "  "),
                    good.replace("a.bare", "a.bare +b.bare"), "home old:", "home old: ", "home old:  ", "home old;",
                    " home old", "home old ", "home  old", "homeold", "home\told", "home old: ;", ": ", ":", ";", " ",
                    "home old: idle none - - - any: mine last - - o one"):
            self.check_row_refused(row)

    def test_empty_rows(self):
        self.check_row_refused("")
        self.check_refused("\n", 0)
        self.check_refused("\n\n", 0)
        self.check_refused("home old\n", 1)
        self.check_refused("\nhome old", 0)
        self.check_refused("home old\n\nhome old", 1)
        self.check_refused("home old\nhome old\n\n", 2)

    def test_the_first_of_several(self):
        self.check_refused("home old\nbad\nhome old\nbad", 1)
        self.check_refused("bad\nbad", 0)
        self.check_refused("\n".join(["home old"] * 399 + ["bad"]), 399)

    def test_what_is_no_text(self):
        for thing in (None, 0, 1, True, False, [], [EXAMPLE_ROW], (), ("home", "old", ()), [EXAMPLE_SHAPE], {}):
            kept = copy.deepcopy(thing)
            self.check_refused(thing, 0)
            self.assertEqual(thing, kept)

    def test_other_texts_of_the_package(self):
        self.check_refused("ask 0 read", 0)
        self.check_refused("hands idle none\nhouses home", 0)


class Edited(TextCase):
    def check_like_reference(self, text):
        wanted = reference_rows(text, shape_of_row)
        if type(wanted) is int:
            self.check_refused(text, wanted)
        else:
            self.assertEqual(read_paper(text), wanted)
            self.assertEqual(paper_text(wanted), text)

    def test_one_sign_more_less_or_other(self):
        second = "out none\nhome last: look old read.bare+c.old a.last so some; mine none - - s any\nb old"
        for text in (EXAMPLE_ROW, second, second.replace("read.", "b.")):
            self.check_like_reference(text)
            for place in range(len(text) + 1):
                self.check_like_reference(text[:place] + text[place + 1:])
                for sign in "aoz A1:;.,+-\n":
                    self.check_like_reference(text[:place] + sign + text[place:])
                    self.check_like_reference(text[:place] + sign + text[place + 1:])

    def test_one_word_other_less_or_twice(self):
        text = EXAMPLE_ROW + "\nout none: idle old a.bare+b.last c.old so some"
        words = text.replace("\n", " \n ").split(" ")
        others = ("none", "old", "bare", "any", "one", "one;", "any;", "-", "s", "so", "a.bare", "a.none", "idle",
                  "mine", "home:", "old:", "read.bare", "read")
        for place in range(len(words)):
            for edit in [[], words[place:place + 1] * 2] + [[other] for other in others]:
                edited = words[:place] + edit + words[place + 1:]
                self.check_like_reference(" ".join(edited).replace(" \n ", "\n"))

    def test_lines_swapped_and_twice(self):
        lines = ["a none - - - any", "a none - - s one", "a none - - o some", "a old b.old+b.old - - any",
                 "a old b.bare - - any", "b last - a.bare - one"]
        for many in range(1, 4):
            for chosen in itertools.product(lines, repeat=many):
                self.check_like_reference("home old: " + "; ".join(chosen))


if __name__ == "__main__":
    unittest.main()

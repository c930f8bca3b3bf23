import copy
import itertools
import unittest

from copyclerk.errors import BadPaper, BadTable
from copyclerk.tabletext import read_table, table_text
from tests.reference import reference_read
from tests.samples import ASKS, EXAMPLE, EXAMPLE_TEXT, HAND_ACTS, HOUSE_ACTS

HANDS = "hands idle none, look read, mine write"
HOUSES = "houses home, out"
# Rows beside which each good row of this file may stand.
BESIDE = (
    "hand look filla -> idle: lose",
    "house out fillb last -> home",
    "hand look fillc -> mine",
    "house out filld any -> out: wait",
)

# Of each pair, the first row is not good and the second one is, and they differ in one thing.
HAND_PAIRS = (
    # states
    ("hand gone read -> idle", "hand look read -> idle"),
    ("hand idle read -> gone", "hand idle read -> look"),
    ("hand home read -> idle", "hand idle read -> idle"),
    ("hand idle read -> home", "hand idle read -> idle"),
    ("hand idl read -> idle", "hand idle read -> idle"),
    ("hand idle read -> idles", "hand idle read -> idle"),
    ("hand Idle read -> idle", "hand idle read -> idle"),
    ("hand idle read -> idle, look", "hand idle read -> idle"),
    # events
    ("hand idle Give -> idle", "hand idle give -> idle"),
    ("hand idle give1 -> idle", "hand idle give -> idle"),
    ("hand idle gi-ve -> idle", "hand idle give -> idle"),
    ("hand idle - -> idle", "hand idle a -> idle"),
    ("hand idle  -> idle", "hand idle a -> idle"),
    ("hand idle -> idle", "hand idle a -> idle"),
    ("hand idle abcdefghi -> idle", "hand idle abcdefgh -> idle"),
    ("hand idle give any -> idle", "hand idle give -> idle"),
    # acts
    ("hand idle give -> idle: gone", "hand idle give -> idle: lose"),
    ("hand idle give -> idle: Keep", "hand idle give -> idle: keep"),
    ("hand idle give -> idle: kee", "hand idle give -> idle: keep"),
    ("hand idle give -> idle: keep it", "hand idle give -> idle: keep"),
    ("hand idle give -> idle: keep give bare", "hand idle give -> idle: send give bare"),
    ("hand idle give -> idle: send", "hand idle give -> idle: send give bare"),
    ("hand idle give -> idle: send give", "hand idle give -> idle: send give bare"),
    ("hand idle give -> idle: send bare", "hand idle give -> idle: send give bare"),
    ("hand idle give -> idle: send give bare value", "hand idle give -> idle: send give bare"),
    ("hand idle give -> idle: send give none", "hand idle give -> idle: send give bare"),
    ("hand idle give -> idle: send give Value", "hand idle give -> idle: send give value"),
    ("hand idle give -> idle: send Give bare", "hand idle give -> idle: send give bare"),
    ("hand idle give -> idle: send  bare", "hand idle give -> idle: send give bare"),
    ("hand idle give -> idle: send abcdefghi bare", "hand idle give -> idle: send abcdefgh bare"),
    ("hand idle give -> idle: send read bare", "hand idle give -> idle: send reads bare"),
    ("hand idle give -> idle: send write bare", "hand idle give -> idle: send wait bare"),
    ("hand idle give -> idle: send drop value", "hand idle give -> idle: send dro value"),
    ("hand idle give -> idle: lose, gone", "hand idle give -> idle: lose, keep"),
    ("hand idle give -> idle: gone, lose", "hand idle give -> idle: keep, lose"),
    # a keep at an ask
    ("hand idle read -> idle: keep", "hand idle reads -> idle: keep"),
    ("hand idle write -> idle: keep", "hand idle write -> idle: lose"),
    ("hand idle drop -> idle: keep", "hand idle drop -> idle"),
    ("hand idle read -> idle: lose, tell, keep", "hand idle give -> idle: lose, tell, keep"),
    ("hand idle write -> idle: keep, put", "hand idle give -> idle: keep, put"),
    # acts of the house
    ("hand idle give -> idle: own", "hand idle give -> idle: lose"),
    ("hand idle give -> idle: share", "hand idle give -> idle: lose"),
    ("hand idle give -> idle: forget", "hand idle give -> idle: lose"),
    ("hand idle give -> idle: clear", "hand idle give -> idle: lose"),
    ("hand idle give -> idle: stay", "hand idle give -> idle: lose"),
    ("hand idle give -> idle: wait", "hand idle give -> idle: lose"),
    ("hand idle give -> idle: owner give bare", "hand idle give -> idle: send give bare"),
    ("hand idle give -> idle: others give value", "hand idle give -> idle: send give value"),
    # tell and put
    ("hand idle give -> idle: tell, put", "hand idle give -> idle: tell, lose"),
    ("hand idle give -> idle: put, tell", "hand idle give -> idle: put, lose"),
    ("hand idle give -> idle: tell, tell", "hand idle give -> idle: tell"),
    ("hand idle give -> idle: put, put", "hand idle give -> idle: put"),
    ("hand idle read -> idle: tell, lose, tell", "hand idle read -> idle: tell, lose"),
    ("hand idle write -> idle: put, send a bare, lose, put", "hand idle write -> idle: put, send a bare, lose"),
    # how many acts
    ("hand idle give -> idle: lose, lose, lose, lose, lose, lose, lose",
     "hand idle give -> idle: lose, lose, lose, lose, lose, lose"),
    ("hand idle give -> idle: keep, put, lose, send a bare, send b value, keep, lose",
     "hand idle give -> idle: keep, put, lose, send a bare, send b value, keep"),
)

HOUSE_PAIRS = (
    # states
    ("house gone get any -> home", "house out get any -> home"),
    ("house home get any -> gone", "house home get any -> out"),
    ("house idle get any -> home", "house home get any -> home"),
    ("house home get any -> idle", "house home get any -> home"),
    ("house hom get any -> home", "house home get any -> home"),
    ("house home get any -> home, out", "house home get any -> home"),
    ("house home get any -> gone: wait", "house home get any -> out: wait"),
    ("house home get any -> idle: wait", "house home get any -> out: wait"),
    # kinds
    ("house home read any -> home", "house home reads any -> home"),
    ("house home write any -> home", "house home wait any -> home"),
    ("house home drop last -> home", "house home dro last -> home"),
    ("house home Get any -> home", "house home get any -> home"),
    ("house home get2 any -> home", "house home get any -> home"),
    ("house home  any -> home", "house home get any -> home"),
    ("house home abcdefghi any -> home", "house home abcdefgh any -> home"),
    # when
    ("house home get none -> home", "house home get any -> home"),
    ("house home get Any -> home", "house home get any -> home"),
    ("house home get all -> home", "house home get more -> home"),
    ("house home get  -> home", "house home get last -> home"),
    ("house home get -> home", "house home get last -> home"),
    ("house home get any last -> home", "house home get last -> home"),
    # acts
    ("house home get any -> home: gone", "house home get any -> home: own"),
    ("house home get any -> home: Own", "house home get any -> home: own"),
    ("house home get any -> home: own it", "house home get any -> home: own"),
    ("house home get any -> home: own give bare", "house home get any -> home: owner give bare"),
    ("house home get any -> home: owner", "house home get any -> home: owner give bare"),
    ("house home get any -> home: others give", "house home get any -> home: others give bare"),
    ("house home get any -> home: other give bare", "house home get any -> home: others give bare"),
    ("house home get any -> home: send give old", "house home get any -> home: send give value"),
    ("house home get any -> home: owner give last", "house home get any -> home: owner give value"),
    ("house home get any -> home: others give any", "house home get any -> home: others give bare"),
    ("house home get any -> home: send read bare", "house home get any -> home: send any bare"),
    ("house home get any -> home: owner write bare", "house home get any -> home: owner own bare"),
    ("house home get any -> home: others drop value", "house home get any -> home: others last value"),
    ("house home get any -> home: owner abcdefghi bare", "house home get any -> home: owner abcdefgh bare"),
    ("house home get any -> home: others Give bare", "house home get any -> home: others give bare"),
    ("house home get any -> home: own, gone", "house home get any -> home: own, share"),
    # acts of a hand
    ("house home get any -> home: lose", "house home get any -> home: keep"),
    ("house home get any -> home: tell", "house home get any -> home: keep"),
    ("house home get any -> home: put", "house home get any -> home: keep"),
    # waits
    ("house home get last -> home: wait", "house home get any -> home: wait"),
    ("house home get more -> home: wait", "house home get any -> home: wait"),
    ("house home get any -> home: wait, wait", "house home get any -> home: wait"),
    ("house home get any -> home: wait, stay", "house home get any -> home: stay"),
    ("house home get any -> home: own, wait", "house home get any -> home: own"),
    ("house home get any -> home: wait get bare", "house home get any -> home: send get bare"),
    # how many acts
    ("house home get any -> home: own, own, own, own, own, own, own",
     "house home get any -> home: own, own, own, own, own, own"),
    ("house home get any -> home: keep, own, share, forget, clear, stay, send a bare",
     "house home get any -> home: keep, own, share, forget, clear, stay"),
)

FORM_PAIRS = (
    # what a row begins with
    ("", "hand idle read -> idle"),
    (" ", "hand idle read -> idle"),
    ("hand", "hand idle read -> idle"),
    ("-> idle", "hand idle read -> idle"),
    ("-> hand", "hand idle read -> idle"),
    ("-> hand: lose", "hand idle read -> idle: lose"),
    ("hand -> idle", "hand idle read -> idle"),
    ("hand idle read idle -> idle", "hand idle read -> idle"),
    ("hand idle read idle -> idle: lose", "hand idle read -> idle: lose"),
    ("house", "house home get any -> home"),
    ("house -> home", "house home get any -> home"),
    ("house home -> home", "house home get any -> home"),
    ("house home get any home -> home", "house home get any -> home"),
    ("house home get any home -> home: wait", "house home get any -> home: wait"),
    ("idle read -> idle", "hand idle read -> idle"),
    ("Hand idle read -> idle", "hand idle read -> idle"),
    ("hands idle read -> idle", "hand idle read -> idle"),
    ("house idle read -> idle", "hand idle read -> idle"),
    ("hand home get any -> home", "house home get any -> home"),
    ("houses home get any -> home", "house home get any -> home"),
    ("home home get any -> home", "house home get any -> home"),
    ("hand: idle read -> idle", "hand idle read -> idle"),
    # the arrow
    ("hand idle read idle", "hand idle read -> idle"),
    ("hand idle read - idle", "hand idle read -> idle"),
    ("hand idle read > idle", "hand idle read -> idle"),
    ("hand idle read --> idle", "hand idle read -> idle"),
    ("hand idle read ->> idle", "hand idle read -> idle"),
    ("hand idle read => idle", "hand idle read -> idle"),
    ("hand idle read <- idle", "hand idle read -> idle"),
    ("hand idle read - > idle", "hand idle read -> idle"),
    ("hand idle read -> -> idle", "hand idle read -> idle"),
    ("hand idle -> read idle", "hand idle read -> idle"),
    ("hand idle read -> idle ->", "hand idle read -> idle"),
    ("hand idle read ->", "hand idle read -> idle"),
    ("hand idle read -> ", "hand idle read -> idle"),
    ("house home get -> any home", "house home get any -> home"),
    # the colon
    ("hand idle read -> idle:", "hand idle read -> idle"),
    ("hand idle read -> idle: ", "hand idle read -> idle"),
    ("hand idle read -> idle :", "hand idle read -> idle"),
    ("hand idle read -> idle : lose", "hand idle read -> idle: lose"),
    ("hand idle read -> idle:lose", "hand idle read -> idle: lose"),
    ("hand idle read -> idle lose", "hand idle read -> idle: lose"),
    ("hand idle read -> idle; lose", "hand idle read -> idle: lose"),
    ("hand idle read -> idle, lose", "hand idle read -> idle: lose"),
    ("hand idle read -> idle:: lose", "hand idle read -> idle: lose"),
    ("hand idle read -> idle: : lose", "hand idle read -> idle: lose"),
    ("hand idle read -> idle: lose:", "hand idle read -> idle: lose"),
    ("hand idle read -> idle: lose: tell", "hand idle read -> idle: lose, tell"),
    ("hand idle read: -> idle", "hand idle read -> idle"),
    # the comma
    ("hand idle read -> idle: lose,", "hand idle read -> idle: lose"),
    ("hand idle read -> idle: lose, ", "hand idle read -> idle: lose"),
    ("hand idle read -> idle: , lose", "hand idle read -> idle: lose"),
    ("hand idle read -> idle: , ", "hand idle read -> idle"),
    ("hand idle read -> idle: lose tell", "hand idle read -> idle: lose, tell"),
    ("hand idle read -> idle: lose,tell", "hand idle read -> idle: lose, tell"),
    ("hand idle read -> idle: lose ,tell", "hand idle read -> idle: lose, tell"),
    ("hand idle read -> idle: lose , tell", "hand idle read -> idle: lose, tell"),
    ("hand idle read -> idle: lose,, tell", "hand idle read -> idle: lose, tell"),
    ("hand idle read -> idle: lose, , tell", "hand idle read -> idle: lose, tell"),
    ("hand idle read -> idle: send, give bare", "hand idle read -> idle: send give bare"),
    # the blank
    (" hand idle read -> idle", "hand idle read -> idle"),
    ("hand idle read -> idle ", "hand idle read -> idle"),
    ("hand idle read -> idle: lose ", "hand idle read -> idle: lose"),
    ("hand idle read -> idle:  lose", "hand idle read -> idle: lose"),
    ("hand idle read -> idle: lose,  tell", "hand idle read -> idle: lose, tell"),
    ("hand idle read -> idle: send  give bare", "hand idle read -> idle: send give bare"),
    ("hand idle read -> idle: send give  bare", "hand idle read -> idle: send give bare"),
    ("hand  idle read -> idle", "hand idle read -> idle"),
    ("hand idle  read -> idle", "hand idle read -> idle"),
    ("hand idle read  -> idle", "hand idle read -> idle"),
    ("hand idle read ->  idle", "hand idle read -> idle"),
    ("handidle read -> idle", "hand idle read -> idle"),
    ("hand idleread -> idle", "hand idle read -> idle"),
    ("hand idle read-> idle", "hand idle read -> idle"),
    ("hand idle read ->idle", "hand idle read -> idle"),
    ("house  home get any -> home", "house home get any -> home"),
    ("house home  get any -> home", "house home get any -> home"),
    ("house home get  any -> home", "house home get any -> home"),
    ("house home get any  -> home", "house home get any -> home"),
    ("house home get any ->  home", "house home get any -> home"),
    ("house home getany -> home", "house home get any -> home"),
    # headings told again
    (HANDS, "hand idle read -> idle"),
    (HOUSES, "hand idle read -> idle"),
    ("hands more none", "hand idle read -> idle"),
    ("houses more", "hand idle read -> idle"),
)

HANDS_PAIRS = (
    ("hands", "hands idle none"),
    ("hands ", "hands idle none"),
    ("hands idle", "hands idle none"),
    ("hands none", "hands idle none"),
    ("hands idle none idle", "hands idle none"),
    ("hands idle read write", "hands idle read"),
    ("hands idle any", "hands idle none"),
    ("hands idle None", "hands idle none"),
    ("hands idle drop", "hands idle read"),
    ("hands idle ", "hands idle none"),
    ("hands  none", "hands a none"),
    ("hands Idle none", "hands idle none"),
    ("hands idle1 none", "hands idle none"),
    ("hands id_le none", "hands idle none"),
    ("hands abcdefghi none", "hands abcdefgh none"),
    ("hands idle none, idle none", "hands idle none, look none"),
    ("hands idle none, idle write", "hands idle none, look write"),
    ("hands a none, b none, c read, a none", "hands a none, b none, c read, d none"),
    ("hands a none, b none, c none, d none, e none, f none, g none, h none, i none",
     "hands a none, b none, c none, d none, e none, f none, g none, h none"),
    ("hands idle none,", "hands idle none"),
    ("hands idle none, ", "hands idle none"),
    ("hands , idle none", "hands idle none"),
    ("hands idle none,look none", "hands idle none, look none"),
    ("hands idle none , look none", "hands idle none, look none"),
    ("hands idle none,  look none", "hands idle none, look none"),
    ("hands idle none,, look none", "hands idle none, look none"),
    ("hands idle none look none", "hands idle none, look none"),
    ("hands idle none; look none", "hands idle none, look none"),
    ("hands idle, none", "hands idle none"),
    ("hands: idle none", "hands idle none"),
    ("hands idle none:", "hands idle none"),
    ("hands  idle none", "hands idle none"),
    ("hands idle  none", "hands idle none"),
    ("hands idle none ", "hands idle none"),
    (" hands idle none", "hands idle none"),
    ("handsidle none", "hands idle none"),
    ("hand idle none", "hands idle none"),
    ("Hands idle none", "hands idle none"),
    ("idle none", "hands idle none"),
    ("houses idle none", "hands idle none"),
    ("houses home", "hands idle none"),
    ("hand idle read -> idle", "hands idle none"),
    ("house home get any -> home", "hands idle none"),
    ("", "hands idle none"),
)

HOUSES_PAIRS = (
    ("houses", "houses home"),
    ("houses ", "houses home"),
    ("houses home none", "houses home"),
    ("houses home out", "houses home, out"),
    ("houses Home", "houses home"),
    ("houses home1", "houses home"),
    ("houses abcdefghi", "houses abcdefgh"),
    ("houses home, home", "houses home, out"),
    ("houses a, b, c, a", "houses a, b, c, d"),
    ("houses a, b, c, d, e, f, g, h, i", "houses a, b, c, d, e, f, g, h"),
    ("houses home,", "houses home"),
    ("houses home, ", "houses home"),
    ("houses , home", "houses home"),
    ("houses home,out", "houses home, out"),
    ("houses home , out", "houses home, out"),
    ("houses home,  out", "houses home, out"),
    ("houses home,, out", "houses home, out"),
    ("houses home; out", "houses home, out"),
    ("houses: home", "houses home"),
    ("houses home:", "houses home"),
    ("houses  home", "houses home"),
    ("houses home ", "houses home"),
    (" houses home", "houses home"),
    ("houseshome", "houses home"),
    ("house home", "houses home"),
    ("Houses home", "houses home"),
    ("home", "houses home"),
    ("hands home", "houses home"),
    ("hands idle none", "houses home"),
    ("hand idle read -> idle", "houses home"),
    ("house home get any -> home", "houses home"),
    ("", "houses home"),
)

# Two rows for the same: each one may stand alone, and the second one not behind the first.
SAME_PAIRS = (
    ("hand idle read -> idle", "hand idle read -> idle"),
    ("hand idle read -> idle", "hand idle read -> mine: tell"),
    ("hand mine give -> idle: keep", "hand mine give -> idle"),
    ("house home get any -> home", "house home get any -> out: own"),
    ("house home get last -> home", "house home get last -> home"),
    ("house home get more -> out", "house home get more -> home: keep"),
    ("house home get any -> home", "house home get last -> home"),
    ("house home get last -> home", "house home get any -> home"),
    ("house home get any -> home", "house home get more -> home"),
    ("house home get more -> home", "house home get any -> home"),
    ("house home get any -> home: wait", "house home get last -> home"),
    ("house home get more -> home", "house home get any -> home: wait"),
    ("house home get any -> home: wait", "house home get any -> home: wait"),
)

# Rows that look like a pair of those, but are for something else.
UNLIKE_PAIRS = (
    ("hand idle read -> idle", "hand mine read -> idle"),
    ("hand idle read -> idle", "hand idle write -> idle"),
    ("hand idle get -> idle", "hand idle gets -> idle"),
    ("house home get last -> home", "house home get more -> home"),
    ("house home get any -> home", "house out get any -> home"),
    ("house home get any -> home", "house home give last -> home"),
)


def joined(*rows):
    return "\n".join(rows)


def with_row(row, place):
    rows = list(BESIDE)
    rows.insert(place, row)
    return joined(HANDS, HOUSES, *rows)


class Refusals(unittest.TestCase):
    def check_refused(self, text, number):
        with self.assertRaises(BadTable) as caught:
            read_table(text)
        self.assertEqual(caught.exception.number, number)
        self.assertIs(type(caught.exception.number), int)
        self.assertNotIsInstance(caught.exception, BadPaper)

    def check_read(self, text):
        self.assertEqual(table_text(read_table(text)), text)

    def check_rows(self, pairs):
        for bad, good in pairs:
            with self.subTest(bad=bad):
                for place in range(len(BESIDE) + 1):
                    self.check_refused(with_row(bad, place), place + 2)
                    self.check_read(with_row(good, place))
                self.check_refused(joined(HANDS, HOUSES, bad), 2)
                self.check_read(joined(HANDS, HOUSES, good))


class RefusedRows(Refusals):
    def test_rows_of_hands(self):
        self.check_rows(HAND_PAIRS)

    def test_rows_of_the_house(self):
        self.check_rows(HOUSE_PAIRS)

    def test_rows_wrongly_set(self):
        self.check_rows(FORM_PAIRS)

    def test_the_first_of_several_bad_rows_is_told(self):
        pairs = HAND_PAIRS + HOUSE_PAIRS + FORM_PAIRS
        for number, (bad, good) in enumerate(pairs):
            other = pairs[number - 1][0]
            with self.subTest(bad=bad, other=other):
                self.check_refused(joined(HANDS, HOUSES, bad, other), 2)
                self.check_refused(joined(HANDS, HOUSES, BESIDE[0], bad, BESIDE[1], other), 3)

    def test_a_bad_row_makes_no_place_taken(self):
        self.check_refused(joined(HANDS, HOUSES, "hand idle read -> gone", "hand idle read -> idle"), 2)

    def test_all_acts_of_hands_up_to_three(self):
        others = (("own",), ("wait",), ("stay",), ("owner", "give", "bare"), ("others", "a", "value"))
        for many in range(4):
            for acts in itertools.product(HAND_ACTS + others, repeat=many):
                for event in ("write", "give"):
                    good = (not set(acts) & set(others)
                            and acts.count(("tell",)) + acts.count(("put",)) < 2
                            and not (event in ASKS and ("keep",) in acts))
                    self.check_acts(f"hand idle {event} -> idle", acts, good)

    def test_all_acts_of_the_house_up_to_two(self):
        others = (("lose",), ("tell",), ("put",), ("wait",))
        for many in range(3):
            for acts in itertools.product(HOUSE_ACTS + others, repeat=many):
                for when in ("any", "last", "more"):
                    good = not set(acts) & set(others) or (acts == (("wait",),) and when == "any")
                    self.check_acts(f"house home get {when} -> out", acts, good)

    def check_acts(self, head, acts, good):
        row = head + (": " if acts else "") + ", ".join(" ".join(act) for act in acts)
        text = joined(HANDS, HOUSES, BESIDE[0], row)
        if good:
            self.assertEqual(read_table(text)[2][1][-1], acts)
        else:
            self.check_refused(text, 3)


class RefusedPairsOfRows(Refusals):
    def test_rows_for_the_same(self):
        for first, second in SAME_PAIRS:
            with self.subTest(first=first, second=second):
                self.check_read(joined(HANDS, HOUSES, first))
                self.check_read(joined(HANDS, HOUSES, second))
                self.check_refused(joined(HANDS, HOUSES, first, second), 3)
                self.check_refused(joined(HANDS, HOUSES, first, *BESIDE, second), 7)
                self.check_refused(joined(HANDS, HOUSES, *BESIDE[:2], first, second, *BESIDE[2:]), 5)
                self.check_refused(joined(HANDS, HOUSES, *BESIDE, first, second), 7)

    def test_any_behind_both_last_and_more(self):
        rows = ["house home get last -> home", "house home get more -> home"]
        self.check_read(joined(HANDS, HOUSES, *rows))
        self.check_refused(joined(HANDS, HOUSES, *rows, "house home get any -> home"), 4)

    def test_rows_for_something_else(self):
        for first, second in UNLIKE_PAIRS:
            with self.subTest(first=first, second=second):
                self.check_read(joined(HANDS, HOUSES, first, second))
                self.check_read(joined(HANDS, HOUSES, second, first))


class RefusedHeadings(Refusals):
    def test_the_row_of_hands(self):
        for bad, good in HANDS_PAIRS:
            with self.subTest(bad=bad):
                self.check_refused(bad, 0)
                self.check_refused(joined(bad, HOUSES), 0)
                self.check_refused(joined(bad, HOUSES, "house home get any -> home"), 0)
                self.check_refused(joined(bad, "houses"), 0)
                self.check_read(joined(good, HOUSES))

    def test_the_row_of_houses(self):
        for bad, good in HOUSES_PAIRS:
            with self.subTest(bad=bad):
                self.check_refused(joined(HANDS, bad), 1)
                self.check_refused(joined(HANDS, bad, "hand idle read -> idle"), 1)
                self.check_refused(joined(HANDS, bad, "hand"), 1)
                self.check_read(joined(HANDS, good))

    def test_the_row_of_houses_lacks(self):
        self.check_refused(HANDS, 1)
        self.check_refused("hands a write", 1)
        self.check_refused(joined(HANDS, "hand idle read -> idle"), 1)

    def test_the_row_of_hands_lacks(self):
        self.check_refused(HOUSES, 0)
        self.check_refused(joined(HOUSES, "house home get any -> home"), 0)
        self.check_refused("hand idle read -> idle", 0)

    def test_headings_in_the_wrong_order(self):
        self.check_refused(joined(HOUSES, HANDS), 0)
        self.check_refused(joined(HOUSES, HANDS, *BESIDE), 0)
        self.check_refused(joined("hands home none", "hands idle none", "houses home"), 1)

    def test_a_row_ahead_of_the_headings(self):
        self.check_refused(joined("hand idle read -> idle", HANDS, HOUSES), 0)
        self.check_refused(joined("house home get any -> home", HANDS, HOUSES), 0)
        self.check_refused(joined(HANDS, "hand idle read -> idle", HOUSES), 1)
        self.check_refused(joined(HANDS, "house home get any -> home", HOUSES), 1)
        self.check_refused(joined("", HANDS, HOUSES), 0)
        self.check_refused(joined(HANDS, "", HOUSES), 1)

    def test_states_are_those_told_in_the_headings(self):
        self.check_refused(joined("hands idle none", HOUSES, "hand look read -> idle"), 2)
        self.check_refused(joined(HANDS, "houses home", "house home get any -> out"), 2)


class RefusedWhole(Refusals):
    def test_the_text_without_signs(self):
        self.check_refused("", 0)

    def test_line_feeds_wrongly_set(self):
        self.check_refused("\n", 0)
        self.check_refused("\n" + EXAMPLE_TEXT, 0)
        self.check_refused(EXAMPLE_TEXT + "\n", 8)
        self.check_refused(HANDS + "\n", 1)
        self.check_refused(joined(HANDS, HOUSES) + "\n", 2)
        self.check_refused(EXAMPLE_TEXT.replace("\n", "\n\n"), 1)
        self.check_refused(EXAMPLE_TEXT.replace("\n", " "), 0)

    def test_what_is_no_text(self):
        lists = [[], [EXAMPLE_TEXT], EXAMPLE_TEXT.split("\n"), (), (EXAMPLE_TEXT,), EXAMPLE, {}]
        for thing in [None, 0, 1, -7, 10 ** 30, True, False] + lists:
            with self.subTest(thing=thing):
                before = copy.deepcopy(thing)
                self.check_refused(thing, 0)
                self.assertEqual(thing, before)

    def test_a_refusal_leaves_no_trace(self):
        for bad, good in HAND_PAIRS:
            self.check_refused(joined(HANDS, HOUSES, bad), 2)
        self.assertEqual(read_table(EXAMPLE_TEXT), EXAMPLE)


class EditedTexts(Refusals):
    def check_like_reference(self, text):
        wanted = reference_read(text)
        if type(wanted) is int:
            self.check_refused(text, wanted)
        else:
            self.assertEqual(read_table(text), wanted)
            self.assertEqual(table_text(wanted), text)

    def test_one_sign_more_less_or_other(self):
        # A second example, so that last, more and the other acts are edited too.
        second = joined(HANDS, HOUSES, "hand idle a -> mine: tell, send b value",
                        "house home b last -> out: owner c bare, stay",
                        "house home b more -> home: others d value, share, forget")
        for text in (EXAMPLE_TEXT, second):
            self.check_like_reference(text)
            for place in range(len(text) + 1):
                self.check_like_reference(text[:place] + text[place + 1:])
                for sign in "ae A1:,->_~\n":
                    self.check_like_reference(text[:place] + sign + text[place:])
                    self.check_like_reference(text[:place] + sign + text[place + 1:])

    def test_one_word_other_less_or_twice(self):
        words = EXAMPLE_TEXT.replace("\n", " \n ").split(" ")
        others = ("read", "any", "last", "home", "idle", "keep", "keep,", "wait", "->", "idle:", "bare")
        for place in range(len(words)):
            for edit in [[], words[place:place + 1] * 2] + [[other] for other in others]:
                edited = words[:place] + edit + words[place + 1:]
                self.check_like_reference(" ".join(edited).replace(" \n ", "\n"))

    def test_rows_left_out_told_twice_or_swapped(self):
        rows = EXAMPLE_TEXT.split("\n")
        for one, other in itertools.product(range(len(rows)), repeat=2):
            swapped = list(rows)
            swapped[one], swapped[other] = rows[other], rows[one]
            self.check_like_reference(joined(*swapped))
            self.check_like_reference(joined(*rows[:one], *rows[one + 1:]))
            self.check_like_reference(joined(*rows[:one], rows[other], *rows[one:]))


if __name__ == "__main__":
    unittest.main()

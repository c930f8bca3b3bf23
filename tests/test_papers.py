"""Papers: each fault alone, the first of several, and papers beside a second looker at them."""

import copy
import itertools
import random
import unittest

from copyclerk.after import after
from copyclerk.finder import find_paper
from copyclerk.papers import checked
from copyclerk.shapes import is_within, may_be_stuck, may_clash, start_shape
from tests.builders import config, shape, table_of
from tests.goodtables import BRINGING, CALLING, EMPTY, KNOWING, LOOKING, ROUNDS, good_ones
from tests.papermodel import model_checked
from tests.walks import made_shape, made_table, wider

COUNTS = ("one", "some", "any")
IDLE = config()
REST = shape((IDLE, "any"))


class PaperCase(unittest.TestCase):
    """Each look at a paper makes sure, too, that what is handed in stays, and that the model tells the same."""

    def told(self, table, paper, *order):
        kept = copy.deepcopy((table, paper))
        found = checked(table, paper, *order)
        self.assertEqual((table, paper), kept)
        self.assertEqual(found, model_checked(table, paper, *(order or (True,))))
        if found is not None:
            self.check_form(found)
        return found

    def check_form(self, fault):
        self.assertIs(type(fault), tuple)
        self.assertIn(fault[0], ("start", "clash", "stuck", "break", "lacks"))
        self.assertEqual(len(fault), 4 if fault[0] in ("break", "lacks") else 2)
        self.assertEqual([type(part) for part in fault[1]], [str, str, tuple])

    def check(self, table, paper, wanted):
        """Wanted is told by order, else, and with order left out."""
        self.assertEqual(self.told(table, paper), wanted)
        self.assertEqual(self.told(table, paper, True), wanted)
        self.assertEqual(self.told(table, paper, False), wanted)


class Start(PaperCase):
    def test_no_shapes(self):
        for table in (EMPTY, CALLING, LOOKING, table_of()):
            self.check(table, [], ("start", start_shape(table)))

    def test_a_start_that_is_within_none(self):
        first = shape((IDLE, "some"))
        for paper in ([shape((IDLE, "one"))], [shape()], [shape((IDLE, "any"), state="out")],
                      [shape((IDLE, "any"), mark="old")], [shape((IDLE, "any"), mark="none")],
                      [shape((config("look"), "any"))], [shape((config(mark="last"), "any"))],
                      [shape((IDLE, "any"), (config("look"), "some"))],
                      [shape((config(flags=1), "any")), shape((IDLE, "one")), shape()]):
            self.check(table_of(), paper, ("start", first))

    def test_a_start_that_is_within_one(self):
        for count in ("some", "any"):
            self.check(table_of(), [shape((IDLE, count))], None)
        self.check(table_of(), [shape((IDLE, "any"), (config("look"), "any"))], None)

    def test_the_shape_may_stand_at_any_place(self):
        others = [shape(), shape((IDLE, "one")), shape(state="out")]
        for place in range(4):
            self.check(table_of(), others[:place] + [REST] + others[place:], None)

    def test_it_comes_ahead_of_all_other_faults(self):
        clashing = shape((config("mine"), "any"))
        self.check(table_of(), [clashing], ("start", shape((IDLE, "some"))))
        self.check(table_of(), [clashing, REST], ("clash", clashing))


class Rest(PaperCase):
    """Faults of a shape itself: where it may clash, where it may be stuck."""

    WAITING = table_of("house home x any -> home: wait")
    STUCK = shape((config(back=(("x", "bare"),)), "any"))

    def test_clash(self):
        for pairs in (((config("mine"), "some"),), ((config("mine"), "any"),),
                      ((config("mine"), "one"), (config("look"), "any"))):
            clashing = shape(*pairs)
            self.assertTrue(may_clash(table_of(), clashing))
            self.check(table_of(), [REST, clashing], ("clash", clashing))

    def test_no_clash(self):
        for pairs in (((config("mine"), "one"),), ((config("look"), "any"),),
                      ((config("mine"), "one"), (config("wait"), "some"))):
            self.check(table_of(), [REST, shape(*pairs)], None)

    def test_stuck(self):
        self.assertTrue(may_be_stuck(self.WAITING, self.STUCK))
        self.check(self.WAITING, [REST, self.STUCK], ("stuck", self.STUCK))

    def test_clash_comes_ahead_of_stuck(self):
        both = shape((config("mine", back=(("x", "bare"),)), "some"))
        self.assertTrue(may_be_stuck(self.WAITING, both))
        self.check(self.WAITING, [REST, both], ("clash", both))

    def test_stuck_comes_ahead_of_what_is_behind(self):
        table = table_of("house home x any -> home: wait", "hand idle read -> idle: tell")
        self.check(table, [self.STUCK, REST], ("stuck", self.STUCK))
        self.check(table, [REST, self.STUCK], ("break", REST, ("ask", IDLE, "read"), "old"))

    def test_stuck_by_order_alone(self):
        table = table_of("house home x any -> home: wait", "house home y any -> home")
        behind_another = shape((config(back=(("x", "bare"), ("y", "bare"))), "one"))
        self.assertEqual(self.told(table, [REST, behind_another]), ("stuck", behind_another))
        self.assertEqual(self.told(table, [REST, behind_another], True), ("stuck", behind_another))
        last = shape((config(back=(("x", "bare"),)), "one"))
        self.assertEqual(self.told(table, [REST, behind_another], False),
                         ("lacks", behind_another, ("get", behind_another[2][0][0], 1), last))
        self.assertEqual(self.told(table, [REST, behind_another, last], False), ("stuck", last))


class Behind(PaperCase):
    def test_a_break_by_norow_full_and_old(self):
        two = (("x", "bare"), ("x", "bare"))
        for rows, picked, word, fault in (
                (["hand wait x -> wait"], config(to=two[:1]), ("take", 0), "norow"),
                (["house out x any -> out"], config(back=two[:1]), ("get", 0), "norow"),
                (["hand look read -> look: send x bare", "house home x any -> home"],
                 config("look", back=two), ("ask", "read"), "full"),
                (["hand look read -> look: tell"], config("look", "old"), ("ask", "read"), "old")):
            for count in COUNTS:
                lying = shape((picked, count))
                wanted = ("break", lying, (word[0], picked, word[1]), fault)
                for paper in ([REST, lying], [lying, REST], [REST, shape(), lying, lying]):
                    self.check(table_of(*rows), paper, wanted)

    def test_a_break_by_clash(self):
        table = table_of("hand wait drop -> mine")
        lying = shape((config("look"), "one"), (config("wait"), "one"))
        behind = shape((config("look"), "one"), (config("mine"), "one"))
        word = ("ask", config("wait"), "drop")
        # The tuple of the shape behind comes ahead of that of the clash.
        self.check(table, [REST, lying], ("lacks", lying, word, behind))
        self.check(table, [REST, lying, behind], ("break", lying, word, "clash"))
        self.check(table, [REST, behind, lying], ("clash", behind))

    def test_lacks(self):
        table = table_of("hand idle read -> look")
        behind = shape((IDLE, "any"), (config("look"), "one"))
        self.check(table, [REST], ("lacks", REST, ("ask", IDLE, "read"), behind))
        again = shape((IDLE, "any"), (config("look"), "some"))
        self.check(table, [REST, behind], ("lacks", behind, ("ask", IDLE, "read"), again))
        self.check(table, [REST, behind, again], None)
        self.check(table, [REST, again], None)
        self.check(table, [shape((IDLE, "any"), (config("look"), "any"))], None)

    def test_lacks_where_the_shape_behind_is_wider_than_those_told(self):
        table = table_of("hand idle read -> look")
        narrow = shape((IDLE, "one"), (config("look"), "one"))
        self.check(table, [REST, narrow],
                   ("lacks", REST, ("ask", IDLE, "read"), shape((IDLE, "any"), (config("look"), "one"))))

    def test_by_the_tuples_in_their_order(self):
        # The ask drop comes ahead of read, and both of write; takes come last.
        table = table_of("hand idle read -> idle: tell", "hand idle drop -> look", "hand idle write -> wait")
        behind = shape((IDLE, "any"), (config("look"), "one"))
        self.check(table, [REST], ("lacks", REST, ("ask", IDLE, "drop"), behind))
        self.check(table, [REST, behind], ("break", REST, ("ask", IDLE, "read"), "old"))
        told = [each[0] for each in after(table, REST)]
        self.assertEqual(told, [("ask", IDLE, event) for event in ("drop", "read", "write")])

    def test_configs_in_their_order(self):
        table = table_of("hand idle write -> wait", "hand look read -> look: tell", "hand look drop -> wait")
        lying = shape((IDLE, "any"), (config("look"), "any"))
        behind = shape((IDLE, "any"), (config("look"), "any"), (config("wait"), "one"))
        self.check(table, [lying], ("lacks", lying, ("ask", IDLE, "write"), behind))
        with_wait = shape((IDLE, "any"), (config("look"), "any"), (config("wait"), "any"))
        self.check(table, [lying, with_wait], ("break", lying, ("ask", config("look"), "read"), "old"))

    def test_shape_by_shape_in_the_papers_order(self):
        table = table_of("hand look read -> look: tell", "house home x any -> home: wait")
        breaks = shape((config("look"), "one"))
        clashes = shape((config("mine"), "some"))
        stuck = shape((config(back=(("x", "bare"),)), "one"))
        faults = {breaks: ("break", breaks, ("ask", config("look"), "read"), "old"),
                  clashes: ("clash", clashes), stuck: ("stuck", stuck)}
        for paper in itertools.permutations([breaks, clashes, stuck, REST]):
            first = next(each for each in paper if each != REST)
            self.check(table, list(paper), faults[first])

    def test_a_shape_twice(self):
        self.check(table_of(), [REST, REST], None)
        clashes = shape((config("mine"), "some"))
        self.check(table_of(), [REST, clashes, REST, clashes], ("clash", clashes))

    def test_by_order_the_first_letter_alone(self):
        table = table_of("hand idle x -> idle", "hand idle y -> idle: tell")
        lying = shape((config(to=(("x", "bare"), ("y", "bare"))), "one"))
        behind = shape((config(to=(("y", "bare"),)), "one"))
        self.assertEqual(self.told(table, [REST, lying]), ("lacks", lying, ("take", lying[2][0][0], 0), behind))
        other = shape((config(to=(("x", "bare"),)), "one"))
        old = ("break", behind, ("take", behind[2][0][0], 0), "old")
        self.assertEqual(self.told(table, [REST, lying, behind]), old)
        self.assertEqual(self.told(table, [REST, lying, behind, other], False),
                         ("break", lying, ("take", lying[2][0][0], 1), "old"))


class Strangers(PaperCase):
    """States, houses and kinds that the table has not."""

    def test_a_hands_state(self):
        gone = config("gone")
        for count in COUNTS:
            self.check(table_of("hand idle read -> idle"), [REST, shape((gone, count))], None)

    def test_a_houses_state(self):
        self.check(table_of(), [REST, shape((config("mine"), "one"), state="gone")], None)
        lying = shape((config(back=(("x", "bare"),)), "any"), state="gone")
        self.check(table_of("house home x any -> home: wait"), [REST, lying],
                   ("break", lying, ("get", lying[2][0][0], 0), "norow"))

    def test_kinds(self):
        for picked, word in ((config(to=(("gone", "last"),)), "take"), (config(back=(("gone", "old"),)), "get")):
            for count in COUNTS:
                lying = shape((picked, count), mark="none")
                self.check(table_of(), [REST, lying], ("break", lying, (word, picked, 0), "norow"))

    def test_a_state_of_the_house_as_one_of_a_hand(self):
        self.check(table_of(), [REST, shape((config("home"), "some"), state="mine")], None)


class Found(PaperCase):
    """Papers that the finder found, whole, in another order, and with one shape less."""

    def test_they_are_let_by(self):
        for table, order in good_ones():
            paper = find_paper(table, order)[1]
            self.assertIsNone(checked(table, paper, order))

    def test_order_left_out_is_order_kept(self):
        for table in (CALLING, KNOWING):
            paper = find_paper(table)[1]
            self.assertIsNone(self.told(table, paper))
            self.assertIsNone(self.told(table, paper, True))
        self.assertIsNone(self.told(KNOWING, find_paper(KNOWING)[1], False))
        self.assertIsNotNone(self.told(CALLING, find_paper(CALLING)[1], False))

    def test_shapes_in_another_order_and_twice(self):
        chance = random.Random(1)
        for table in (CALLING, KNOWING, ROUNDS):
            paper = find_paper(table)[1]
            for _ in range(3):
                mixed = paper + chance.choices(paper, k=3)
                chance.shuffle(mixed)
                self.assertIsNone(self.told(table, mixed))
            self.assertIsNone(self.told(table, paper[::-1]))

    def test_one_shape_less(self):
        for table in (CALLING, KNOWING, ROUNDS):
            paper = find_paper(table)[1]
            for place in range(len(paper)):
                less = paper[:place] + paper[place + 1:]
                fault = self.told(table, less)
                if fault is None:
                    # Another shape, found later, is wider than this one.
                    self.assertTrue(any(is_within(paper[place], other) for other in less))
                else:
                    self.assertIn(fault[0], ("start", "lacks"))

    def test_a_shape_more(self):
        paper = find_paper(KNOWING)[1]
        stale = config("mine", "old")
        for extra, fault in (
                (("out", "last", ((stale, "one"),)), ("break", ("ask", stale, "read"), "old")),
                (("out", "last", ((stale, "some"),)), ("clash",)),
                (("lent", "last", ((config("wait", back=(("get", "bare"),)), "some"),)), ("stuck",)),
                (("out", "old", ((IDLE, "one"), (config("mine", "last"), "one"))),
                 ("lacks", ("ask", IDLE, "write"),
                  ("out", "old", ((config("mine", "last"), "one"),
                                  (config("wait", back=(("get", "bare"),)), "one")))))):
            for place in range(len(paper) + 1):
                self.assertEqual(self.told(KNOWING, paper[:place] + [extra] + paper[place:]),
                                 fault[:1] + (extra,) + fault[1:])

    def test_one_count_narrower(self):
        paper = find_paper(BRINGING)[1]
        faults = []
        for place in range(0, len(paper), 5):
            state, mark, pairs = paper[place]
            for number, (each, count) in enumerate(pairs):
                if count != "one":
                    narrow = (state, mark, pairs[:number] + ((each, "one"),) + pairs[number + 1:])
                    fault = self.told(BRINGING, paper[:place] + [narrow] + paper[place + 1:])
                    faults.append(fault and fault[0])
        # Some shapes are within others, so that nothing lacks without them.
        self.assertEqual(set(faults), {None, "lacks"})


class Made(PaperCase):
    def test_made_papers_beside_the_model(self):
        chance = random.Random(2)
        seen = set()
        for seed in range(150):
            table = made_table(seed)
            paper = [made_shape(chance, many) for many in (1, 2, 1)]
            paper.insert(chance.randrange(4), wider(chance, start_shape(table), 1))
            for order in (True, False):
                fault = self.told(table, paper, order)
                seen.add(fault and fault[0])
        self.assertLessEqual({"clash", "stuck", "break", "lacks"}, seen)

    def test_shapes_behind_added_one_by_one(self):
        """As long as something lacks, it is put into the paper; at last nothing does."""
        for table, many in ((EMPTY, 1), (CALLING, 11), (KNOWING, 12), (ROUNDS, 31)):
            paper = [start_shape(table)]
            while len(paper) < many:
                fault = self.told(table, paper)
                self.assertEqual(fault[0], "lacks")
                self.assertIn((fault[2], "", fault[3]), after(table, fault[1]))
                paper.append(fault[3])
            self.assertIsNone(self.told(table, paper))


if __name__ == "__main__":
    unittest.main()

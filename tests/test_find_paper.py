"""The finder of papers: what it finds and in which order, each fault, and where it gives up."""

import copy
import inspect
import itertools
import unittest

from copyclerk.after import after
from copyclerk.finder import find_paper
from copyclerk.papers import checked
from copyclerk.papertext import read_paper
from copyclerk.shapes import is_within, lies_in, start_shape
from copyclerk.standings import start
from tests.builders import config, shape, table_of
from tests.goodtables import (BRINGING, CALLING, EMPTY, KNOWING, LOOKING, MINDING, ROUNDS, chain, changed_once,
                              good_ones)
from tests.papermodel import model_find_paper, model_loosened
from tests.samples import EXAMPLE
from tests.walks import made_table

IDLE = config()


class FinderCase(unittest.TestCase):
    """Each look makes sure, too, that what is handed in stays, and that the model tells the same."""

    def told(self, table, order=True, most=400):
        kept = copy.deepcopy(table)
        found = find_paper(table, order, most)
        self.assertEqual(table, kept)
        self.assertEqual(found, model_find_paper(table, order, most))
        self.check_form(table, found, order, most)
        return found

    def check_form(self, table, found, order, most):
        self.assertIs(type(found), tuple)
        if found[0] == "gave up":
            self.assertEqual(found, ("gave up",))
        elif found[0] == "fault":
            self.assertEqual(len(found), 2)
            self.assertIn(found[1][0], ("clash", "stuck", "break"))
        else:
            self.assertEqual((len(found), found[0]), (2, "paper"))
            self.assertIs(type(found[1]), list)
            self.assertLessEqual(len(found[1]), most)
            self.assertIsNone(checked(table, found[1], order))

    def check_fault(self, table, fault, orders=(True, False)):
        for order in orders:
            self.assertEqual(self.told(table, order), ("fault", fault))


class Papers(FinderCase):
    def test_a_table_without_rows(self):
        for order in (True, False):
            self.assertEqual(self.told(EMPTY, order), ("paper", [shape((IDLE, "any"))]))

    def test_rows_that_bring_nothing_new(self):
        table = table_of("hand idle read -> idle", "hand idle write -> idle: lose", "hand look drop -> idle: tell")
        self.assertEqual(self.told(table), ("paper", [shape((IDLE, "any"))]))

    def test_shapes_in_the_order_in_which_they_are_found(self):
        self.assertEqual(self.told(CALLING)[1], read_paper("\n".join([
            "home last: idle none - - - any",
            "home last: idle none - - - any; wait none - get.bare - one",
            "home last: idle none - - - any; wait none - get.bare - some",
            "out last: idle none - - - any; wait none give.last - o one",
            "out last: idle none - - - any; wait none - get.bare - any; wait none give.last - o one",
            "out old: idle none - - - any; mine last - - o one",
            "busy last: idle none - - - any; wait none - get.bare - some; wait none give.last+call.bare - o one",
            "out old: idle none - - - any; mine last - - o one; wait none - get.bare - any",
            "busy old: idle none - - - any; mine last call.bare - o one; wait none - get.bare - some",
            "busy old: idle none - - - any; idle none - back.last o one; wait none - get.bare - some",
            "busy old: idle none - - - any; wait none - back.last+get.bare o one; wait none - get.bare - some",
        ])))

    def test_those_found_behind_one_are_found_in_the_order_of_after(self):
        table = table_of("hand idle write -> look", "hand idle read -> wait", "hand idle drop -> wait: put")
        first = shape((IDLE, "any"))
        told = after(table, first)
        self.assertEqual([word[2] for word, fault, behind in told], ["drop", "read", "write"])
        found = self.told(table)[1]
        self.assertEqual(found[:4], [first] + [model_loosened(behind) for word, fault, behind in told])

    def test_a_shape_that_is_within_one_found_before_is_not_found(self):
        # Both asks bring the same shape; the second hand in look brings one that is within it.
        table = table_of("hand idle read -> look", "hand idle drop -> look")
        both = shape((IDLE, "any"), (config("look"), "any"))
        self.assertEqual(self.told(table), ("paper", [shape((IDLE, "any")), both]))
        for table in (BRINGING, chain(2), KNOWING):
            found = self.told(table)[1]
            for place, later in enumerate(found):
                self.assertFalse(any(is_within(later, earlier) for earlier in found[:place]))

    def test_a_wider_one_found_later_leaves_the_narrow_one_there(self):
        found = self.told(chain(1))[1]
        self.assertTrue(any(is_within(earlier, later) for earlier, later in itertools.combinations(found, 2)))
        self.assertEqual(len(found), len(set(found)))

    def test_good_tables(self):
        for table, order in good_ones():
            found = find_paper(table, order)
            self.assertEqual(found[0], "paper")
            self.check_form(table, found, order, 400)
            self.assertTrue(is_within(start_shape(table), found[1][0]))
            for many in (1, 2, 20):
                self.assertTrue(lies_in(start(table, many), found[1][0]))

    def test_each_shape_found_is_behind_an_earlier_one(self):
        for table, order in good_ones():
            found = find_paper(table, order)[1]
            behind = set()
            for place, each in enumerate(found):
                self.assertTrue(place == 0 or each in behind)
                behind |= {model_loosened(told[2]) for told in after(table, each, order)}

    def test_order_left_out_is_order_kept(self):
        for table in (CALLING, LOOKING):
            self.assertEqual(find_paper(table), find_paper(table, True))
            self.assertEqual(find_paper(table)[0], "paper")
            self.assertEqual(find_paper(table, False)[0], "fault")

    def test_the_list_told_may_be_changed(self):
        first = find_paper(CALLING)[1]
        kept = list(first)
        first.reverse()
        first.append("gone")
        first[0] = None
        self.assertEqual(find_paper(CALLING), ("paper", kept))
        self.assertEqual(find_paper(CALLING, True, len(kept)), ("paper", kept))


class Loosened(FinderCase):
    def test_the_starts_shape(self):
        self.assertEqual(self.told(EMPTY)[1][0], shape((IDLE, "any")))

    def test_without_letters_and_flags(self):
        table = table_of("hand idle read -> look", "hand look drop -> wait: put")
        found = self.told(table)[1]
        self.assertEqual(found[1], shape((IDLE, "any"), (config("look"), "any")))
        self.assertTrue(all(count == "any" for each in found for other, count in each[2]))
        # The mark of its value doesn't matter.
        self.assertIn(config("wait", "last"), [other for each in found for other, count in each[2]])

    def test_with_letters_to_the_house(self):
        table = table_of("hand idle read -> look: send x bare", "house home x any -> home")
        found = self.told(table)[1]
        self.assertEqual(found[1], shape((IDLE, "any"), (config("look", back=(("x", "bare"),)), "one")))
        self.assertEqual(found[2], shape((IDLE, "any"), (config("look", back=(("x", "bare"),)), "some")))
        self.assertEqual(found[3], shape((IDLE, "any"), (config("look"), "any")))

    def test_with_letters_to_the_hand(self):
        found = self.told(chain(1))[1]
        self.assertIn(shape((IDLE, "any"), (config("a", to=(("pong", "bare"),)), "one")), found)

    def test_with_flags(self):
        for act, flags in (("share", 1), ("own", 2), ("own, share", 3)):
            table = table_of("hand idle read -> look: send x bare", f"house home x any -> home: {act}")
            found = self.told(table)[1]
            self.assertIn(shape((IDLE, "any"), (config("look", flags=flags), "one")), found)

    def test_only_the_configs_at_rest(self):
        for table, order in good_ones():
            for each in find_paper(table, order)[1]:
                for (state, mark, to, back, flags), count in each[2]:
                    if not to and not back and not flags:
                        self.assertEqual(count, "any")
        counts = {count for each in find_paper(LOOKING)[1] for other, count in each[2] if other[2:] != ((), (), 0)}
        self.assertEqual(counts, {"one", "some", "any"})


class Faults(FinderCase):
    def test_clash(self):
        # One hand at a time has the right, but the house keeps no flags, so the finder can't tell.
        table = table_of("hand idle write -> wait: send get bare", "hand wait give -> mine: keep, put",
                         "hand mine drop -> idle: send back value, lose",
                         "house home get any -> out: send give value", "house out back any -> home: keep",
                         "house out get any -> out: wait")
        clashing = shape((IDLE, "any"), (config("mine", "last"), "any"), state="out", mark="old")
        self.check_fault(table, ("clash", clashing))

    def test_clash_at_once(self):
        table = ((("mine", "write"),), ("home",), ())
        self.check_fault(table, ("clash", ("home", "last", ((config("mine"), "any"),))))

    def test_stuck(self):
        stuck = shape((IDLE, "any"), (config("mine", "last", flags=2), "one"),
                      (config("wait", back=(("get", "bare"),)), "any"), state="out", mark="old")
        self.check_fault(EXAMPLE, ("stuck", stuck))

    def test_clash_comes_ahead_of_stuck_and_both_ahead_of_breaks(self):
        hands, houses = (("mine", "write"),), ("home",)
        rows = (("hand", "mine", "read", "mine", (("tell",),)),)
        lying = ("home", "last", ((config("mine"), "any"),))
        self.check_fault((hands, houses, rows), ("clash", lying))
        sends = table_of("hand idle read -> idle: send x bare", "house home x any -> home: wait",
                         "hand idle x -> idle")
        one = shape((IDLE, "any"), (config(back=(("x", "bare"),)), "one"))
        self.check_fault(sends, ("stuck", one))

    def test_breaks(self):
        for rows, lying, word, fault in (
                (["hand idle read -> idle: tell"], shape((IDLE, "any")), ("ask", IDLE, "read"), "old"),
                (["hand idle read -> wait: send x bare"],
                 shape((IDLE, "any"), (config("wait", back=(("x", "bare"),)), "one")),
                 ("get", config("wait", back=(("x", "bare"),)), 0), "norow"),
                (["hand idle read -> idle: send x bare, send x bare, send x bare"], shape((IDLE, "any")),
                 ("ask", IDLE, "read"), "full")):
            self.check_fault(table_of(*rows), ("break", lying, word, fault))

    def test_a_break_by_clash(self):
        # Owners are kept, but nothing keeps a second one from coming.
        table = table_of("hand idle write -> wait: send get bare", "hand wait give -> mine: keep, put",
                         "house home get any -> home: own, send give value")
        found = self.told(table)
        self.assertEqual((found[0], found[1][0], found[1][3]), ("fault", "break", "clash"))
        self.assertEqual(found[1][2], ("take", config("wait", to=(("give", "old"),), flags=2), 0))

    def test_the_first_tuple_with_a_fault(self):
        table = table_of("hand idle read -> idle: tell", "hand idle write -> idle: put, send x bare",
                         "hand idle drop -> idle: send a bare, send a bare, send a bare")
        self.check_fault(table, ("break", shape((IDLE, "any")), ("ask", IDLE, "drop"), "full"))
        table = table_of("hand idle read -> idle: tell", "hand idle write -> idle: tell", "hand idle drop -> idle")
        self.check_fault(table, ("break", shape((IDLE, "any")), ("ask", IDLE, "read"), "old"))

    def test_the_first_shape_with_a_fault(self):
        table = table_of("hand idle write -> wait", "hand idle drop -> look", "hand look read -> look: tell",
                         "hand wait read -> wait: tell")
        look = shape((IDLE, "any"), (config("look"), "any"))
        self.check_fault(table, ("break", look, ("ask", config("look"), "read"), "old"))

    def test_a_fault_by_order_or_else_alone(self):
        for table in (CALLING, LOOKING):
            self.assertEqual(self.told(table, False)[0], "fault")
        table = table_of("hand idle read -> wait: send x bare, send y bare", "house home x any -> home: wait",
                         "house home y any -> home")
        both = shape((IDLE, "any"), (config("wait", back=(("x", "bare"), ("y", "bare"))), "one"))
        self.assertEqual(self.told(table, True), ("fault", ("stuck", both)))
        one = shape((IDLE, "any"), (config("wait", back=(("x", "bare"),)), "one"))
        self.assertEqual(self.told(table, False), ("fault", ("stuck", one)))

    def test_a_fault_is_as_a_paper_that_begins_with_the_shape_tells_it(self):
        for place, table in enumerate(changed_once(KNOWING)):
            order = place % 2 == 0
            found = find_paper(table, order)
            if found[0] == "fault":
                lying = found[1][1]
                behind = [told[2] for told in after(table, lying, order) if told[2]]
                self.assertEqual(checked(table, [lying, start_shape(table)] + behind, order), found[1])


class GivesUp(FinderCase):
    def needed(self, table, order=True):
        return len(find_paper(table, order)[1])

    def test_at_the_number_needed_and_beside_it(self):
        for table, order in good_ones():
            many = self.needed(table, order)
            paper = find_paper(table, order)
            self.assertEqual(find_paper(table, order, many), paper)
            self.assertEqual(find_paper(table, order, many + 1), paper)
            self.assertEqual(find_paper(table, order, many - 1), ("gave up",))

    def test_each_bound(self):
        for table in (EMPTY, CALLING, KNOWING, chain(1), ROUNDS):
            for most in range(self.needed(table) + 2):
                for order in (True, False):
                    self.told(table, order, most)

    def test_none_at_all(self):
        self.assertEqual(self.told(EMPTY, True, 0), ("gave up",))
        self.assertEqual(self.told(EMPTY, True, 1), ("paper", [shape((IDLE, "any"))]))

    def test_a_fault_of_one_that_is_looked_at_comes_first(self):
        table = table_of("hand idle read -> idle: tell", "hand idle drop -> look", "hand idle write -> wait")
        for most in (0, 1, 2, 400):
            self.assertEqual(self.told(table, True, most),
                             ("fault", ("break", shape((IDLE, "any")), ("ask", IDLE, "read"), "old")))

    def test_too_many_behind_one_come_ahead_of_the_faults_of_the_next(self):
        table = table_of("hand idle drop -> look", "hand idle write -> wait", "hand look read -> look: tell")
        look = shape((IDLE, "any"), (config("look"), "any"))
        for most, wanted in ((0, ("gave up",)), (1, ("gave up",)), (2, ("gave up",)),
                             (3, ("fault", ("break", look, ("ask", config("look"), "read"), "old")))):
            self.assertEqual(self.told(table, True, most), wanted)

    def test_the_last_one_looked_at_brings_too_many(self):
        # The start's shape is the last one found when it is looked at, and brings two more.
        table = table_of("hand idle drop -> look", "hand idle write -> wait")
        self.assertEqual(self.told(table, True, 2), ("gave up",))
        many = self.needed(table)
        # Of the others only the last one looked at brings the last one found.
        found = self.told(table, True, many)[1]
        self.assertEqual(found[-1], shape((IDLE, "any"), (config("look"), "any"), (config("wait"), "any")))
        self.assertEqual(self.told(table, True, many - 1), ("gave up",))

    def test_all_found_by_one_are_counted_together(self):
        table = table_of("hand idle drop -> look", "hand idle write -> wait", "hand idle read -> wait: put")
        for most in (1, 2, 3):
            self.assertEqual(self.told(table, True, most), ("gave up",))

    def test_most_left_out(self):
        self.assertEqual(inspect.signature(find_paper).parameters["most"].default, 400)
        self.assertIs(inspect.signature(find_paper).parameters["order"].default, True)
        self.assertEqual(list(inspect.signature(find_paper).parameters), ["table", "order", "most"])
        self.assertEqual(len(find_paper(chain(5))[1]), 240)
        table = chain(6)
        self.assertEqual(find_paper(table), ("gave up",))
        paper = find_paper(table, most=494)
        self.assertEqual(len(paper[1]), 494)
        self.assertEqual(find_paper(table, most=493), ("gave up",))


class BesideTheModel(FinderCase):
    def test_made_tables(self):
        seen = set()
        for seed in range(400):
            for order in (True, False):
                found = self.told(made_table(seed), order, 30)
                seen.add(found[0] if found[0] != "fault" else found[1][0] + str(found[1][3:]))
        self.assertLessEqual({"paper", "clash()", "stuck()", "break('old',)", "break('full',)", "break('norow',)"},
                             seen)

    def test_tables_changed_once(self):
        seen = set()
        for table in (CALLING, KNOWING, ROUNDS):
            for place, changed in enumerate(changed_once(table)):
                seen.add(self.told(changed, place % 2 == 0, 60)[0])
        for table in (BRINGING, LOOKING, MINDING):
            for changed in itertools.islice(changed_once(table), 0, None, 9):
                seen.add(self.told(changed, True, 40)[0])
        self.assertEqual(seen, {"paper", "fault", "gave up"})


if __name__ == "__main__":
    unittest.main()

"""The finder of runs: the first that breaks or is stuck, what it tells of those, and where it gives up."""

import copy
import inspect
import itertools
import unittest

from copyclerk.finder import find_run
from copyclerk.steps import play, stuck
from copyclerk.tabletext import read_table
from tests.builders import table_of
from tests.goodtables import (BRINGING, CALLING, EMPTY, KNOWING, LOOKING, MINDING, ROUNDS, chain, changed_once,
                              good_ones)
from tests.papermodel import model_find_run
from tests.samples import EXAMPLE, SHARING_TEXT
from tests.walks import made_table

SHARING = read_table(SHARING_TEXT)


class RunCase(unittest.TestCase):
    """Each look makes sure, too, that what is handed in stays, and that a run told plays as it says."""

    def told(self, table, many, order=True, most=3000):
        kept = copy.deepcopy(table)
        found = find_run(table, many, order, most)
        self.assertEqual(table, kept)
        self.assertEqual(found, model_find_run(table, many, order, most))
        self.check_form(table, many, order, found)
        return found

    def check_form(self, table, many, order, found):
        self.assertIs(type(found), tuple)
        if found[0] == "gave up":
            self.assertEqual(found, ("gave up",))
        elif found[0] == "none":
            self.assertEqual([type(part) for part in found], [str, int])
        else:
            word, deeds, broken = found
            self.assertEqual((word, type(deeds)), ("run", list))
            self.check_plays(table, many, order, deeds, broken)

    def check_plays(self, table, many, order, deeds, broken):
        if order:
            self.assertTrue(all(deed[0] == "ask" or deed[2] == 0 for deed in deeds))
        if broken == ("stuck",):
            standing, answers, breaks = play(table, many, deeds)
            self.assertIsNone(breaks)
            self.assertTrue(stuck(table, standing, order))
        else:
            self.assertIsNone(play(table, many, deeds[:-1])[2])
            self.assertEqual(play(table, many, deeds)[2], broken)
        for ahead in range(len(deeds)):
            standing, answers, breaks = play(table, many, deeds[:ahead])
            self.assertIsNone(breaks)
            self.assertFalse(stuck(table, standing, order))

    def check(self, table, many, wanted, orders=(True, False)):
        for order in orders:
            self.assertEqual(self.told(table, many, order), wanted)


class Breaks(RunCase):
    def test_at_once(self):
        table = table_of("hand idle read -> idle: tell")
        for many in (1, 2, 3):
            self.check(table, many, ("run", [("ask", 0, "read")], ("old",)))

    def test_each_break(self):
        ask, drop, write = ("ask", 0, "read"), ("ask", 0, "drop"), ("ask", 0, "write", 0)
        for rows, deeds, word in (
                (["hand idle read -> wait: send x bare"], [ask, ("get", 0, 0)], "norow"),
                (["hand idle read -> wait: send x bare", "house home x any -> home: send y bare"],
                 [ask, ("get", 0, 0), ("take", 0, 0)], "norow"),
                (["hand idle drop -> idle: send x bare", "house home x any -> home"], [drop] * 3, "full"),
                (["hand idle write -> wait: put, lose", "hand wait read -> idle: tell"], [write, ask], "old")):
            for many in (1, 2, 3):
                self.check(table_of(*rows), many, ("run", deeds, (word,)))

    def test_clash(self):
        table = table_of("hand idle write -> mine: put")
        self.check(table, 1, ("none", 2))
        for many in (2, 3):
            self.check(table, many, ("run", [("ask", 0, "write", 0), ("ask", 1, "write", 0)], ("clash",)))

    def test_stuck(self):
        deeds = [("ask", 0, "write", 0), ("get", 0, 0), ("take", 0, 0), ("ask", 1, "write", 0)]
        self.check(EXAMPLE, 1, ("none", 6))
        for many in (2, 3):
            self.check(EXAMPLE, many, ("run", deeds, ("stuck",)))

    def test_stuck_behind_one_deed(self):
        table = table_of("hand idle read -> wait: send x bare", "house home x any -> home: wait")
        for many in (1, 2, 3):
            self.check(table, many, ("run", [("ask", 0, "read")], ("stuck",)))

    def test_stuck_by_order_alone(self):
        table = table_of("hand idle read -> wait: send x bare, send y bare", "house home x any -> home: wait",
                         "house home y any -> home")
        self.assertEqual(self.told(table, 1, True), ("run", [("ask", 0, "read")], ("stuck",)))
        self.assertEqual(self.told(table, 1, False), ("run", [("ask", 0, "read"), ("get", 0, 1)], ("stuck",)))

    def test_a_break_without_order_alone(self):
        run = [("ask", 0, "write", 0), ("get", 0, 0), ("ask", 1, "write", 0), ("get", 1, 0), ("take", 0, 1)]
        for many in (2, 3):
            self.assertEqual(self.told(CALLING, many, False), ("run", run, ("norow",)))
            self.assertEqual(self.told(CALLING, many, True)[0], "none")

    def test_a_standing_is_asked_whether_it_is_stuck_only_when_its_turn_comes(self):
        # The ask read leads to a standing that is stuck, but the ask drop breaks ahead of its turn.
        table = table_of("hand idle read -> wait: send x bare", "hand idle drop -> idle: tell",
                         "house home x any -> home: wait")
        self.check(table, 1, ("run", [("ask", 0, "drop")], ("old",)))

    def test_a_stuck_one_does_no_deed(self):
        table = table_of("hand idle read -> wait: send x bare", "hand wait read -> wait: tell",
                         "house home x any -> home: wait")
        self.check(table, 1, ("run", [("ask", 0, "read")], ("stuck",)))

    def test_the_deeds_that_first_led_there(self):
        # Both asks lead to the same standing; read comes first.
        table = table_of("hand idle drop -> look", "hand idle read -> look", "hand look write -> look: tell")
        self.check(table, 1, ("run", [("ask", 0, "read"), ("ask", 0, "write", 0)], ("old",)))
        # The short way is told, though a longer one is there.
        table = table_of("hand idle read -> wait", "hand wait read -> look", "hand idle write -> look",
                         "hand look read -> look: tell")
        self.check(table, 1, ("run", [("ask", 0, "write", 0), ("ask", 0, "read")], ("old",)))

    def test_deeds_in_their_order(self):
        rows = {"read": "hand idle read -> idle: tell", "write": "hand idle write -> idle: tell",
                "drop": "hand idle drop -> idle: tell"}
        for asks, first in ((("drop", "write", "read"), ("ask", 0, "read")),
                            (("drop", "write"), ("ask", 0, "write", 0)), (("drop",), ("ask", 0, "drop"))):
            self.check(table_of(*[rows[ask] for ask in asks]), 2, ("run", [first], ("old",)))

    def test_of_two_that_break_that_of_the_standing_that_came_first(self):
        table = table_of("hand idle read -> wait", "hand idle drop -> look", "hand wait drop -> wait: tell",
                         "hand look read -> look: tell")
        self.check(table, 1, ("run", [("ask", 0, "read"), ("ask", 0, "drop")], ("old",)))

    def test_of_several_hands(self):
        # It needs both hands: the second one's put makes the first one's value old.
        table = table_of("hand idle write -> wait: put", "hand wait read -> wait: tell")
        self.check(table, 1, ("none", 2))
        for many in (2, 3):
            self.check(table, many, ("run", [("ask", 0, "write", 0), ("ask", 1, "write", 0), ("ask", 0, "read")],
                                     ("old",)))

    def test_a_run_that_needs_three_hands(self):
        table = table_of("hand idle read -> wait: send x bare", "house home x any -> out",
                         "house out x any -> busy", "house busy x any -> busy: send y bare")
        for many, wanted in ((1, "none"), (2, "none"), (3, "run")):
            for order in (True, False):
                found = self.told(table, many, order)
                self.assertEqual(found[0], wanted)
        self.assertEqual(found[2], ("norow",))
        self.assertEqual(found[1][-1][0], "take")

    def test_the_list_told_may_be_changed(self):
        first = find_run(EXAMPLE, 2)
        kept = copy.deepcopy(first)
        first[1].clear()
        self.assertEqual(find_run(EXAMPLE, 2), kept)
        find_run(EXAMPLE, 2)[1].append("gone")
        self.assertEqual(find_run(EXAMPLE, 2), kept)


class NoRun(RunCase):
    def test_no_deeds_at_all(self):
        for many in (0, 1, 2, 3, 20):
            self.check(EMPTY, many, ("none", 1))

    def test_no_hands(self):
        for table in (EXAMPLE, CALLING, made_table(3)):
            self.check(table, 0, ("none", 1))

    def test_a_standing_is_come_to_once(self):
        table = table_of("hand idle read -> look", "hand look read -> idle", "hand idle drop -> look")
        for many in (1, 2, 3):
            self.check(table, many, ("none", 2 ** many))

    def test_standings_are_thinned(self):
        # Versions and wants go on for ever, but thinned they are few: the value is last's, or it is not.
        table = table_of("hand idle write -> idle: put")
        self.check(table, 1, ("none", 2))
        # Beside the start, one hand wrote last, and each other one never did or did so before.
        self.check(table, 2, ("none", 1 + 2 * 2))
        self.check(table, 3, ("none", 1 + 3 * 4))

    def test_the_starts_store_counts_as_last(self):
        # What the house gives at first may be told.
        table = table_of("hand idle read -> wait: send x bare", "house home x any -> home: send y value",
                         "hand wait y -> idle: keep, tell, lose")
        self.check(table, 1, ("none", 3))

    def test_hands_are_told_apart(self):
        for many, wanted in ((1, 3), (2, 9), (3, 27)):
            self.check(chain(1), many, ("none", wanted))
        self.assertEqual([self.told(ROUNDS, many)[1] for many in (1, 2, 3)], [5, 25, 125])

    def test_good_tables(self):
        for table, order in good_ones():
            for many in (1, 2, 3):
                self.assertEqual(find_run(table, many, order)[0], "none")

    def test_how_many(self):
        self.assertEqual([find_run(LOOKING, many)[1] for many in (1, 2, 3, 4)], [7, 67, 449, 2991])
        for table in (CALLING, KNOWING, BRINGING):
            for many in (1, 2):
                self.told(table, many)


class GivesUp(RunCase):
    def test_at_the_bound_and_beside_it(self):
        for table, order in good_ones():
            for many in (1, 2, 3):
                came = find_run(table, many, order)[1]
                for most in (came, came + 1):
                    self.assertEqual(find_run(table, many, order, most), ("none", came))
                self.assertEqual(find_run(table, many, order, came - 1), ("gave up",))

    def test_each_bound(self):
        for table in (EXAMPLE, CALLING, SHARING, ROUNDS):
            for many in (1, 2):
                for order in (True, False):
                    for most in range(26):
                        self.told(table, many, order, most)

    def test_none_at_all(self):
        self.assertEqual(self.told(EMPTY, 1, True, 0), ("gave up",))
        self.assertEqual(self.told(EMPTY, 1, True, 1), ("none", 1))
        self.assertEqual(self.told(EMPTY, 0, True, 0), ("gave up",))

    def test_a_break_of_one_that_is_asked_comes_first(self):
        table = table_of("hand idle read -> look", "hand idle write -> wait", "hand idle drop -> idle: tell")
        for most in (0, 1, 2, 3):
            self.assertEqual(self.told(table, 1, True, most), ("run", [("ask", 0, "drop")], ("old",)))

    def test_too_many_behind_one_come_ahead_of_the_next(self):
        table = table_of("hand idle read -> look", "hand idle write -> wait", "hand look drop -> idle: tell")
        for most, wanted in ((0, ("gave up",)), (1, ("gave up",)), (2, ("gave up",)),
                             (3, ("run", [("ask", 0, "read"), ("ask", 0, "drop")], ("old",)))):
            self.assertEqual(self.told(table, 1, True, most), wanted)

    def test_too_many_behind_one_come_ahead_of_a_stuck_one(self):
        table = table_of("hand idle read -> wait: send x bare", "house home x any -> home: wait")
        self.assertEqual(self.told(table, 1, True, 1), ("gave up",))
        self.assertEqual(self.told(table, 1, True, 2), ("run", [("ask", 0, "read")], ("stuck",)))

    def test_the_last_one_asked_brings_too_many(self):
        table = table_of("hand idle read -> look", "hand look read -> wait")
        self.assertEqual(self.told(table, 1, True, 2), ("gave up",))
        self.assertEqual(self.told(table, 1, True, 3), ("none", 3))

    def test_most_left_out(self):
        given = inspect.signature(find_run).parameters
        self.assertEqual(list(given), ["table", "many", "order", "most"])
        self.assertEqual((given["order"].default, given["most"].default), (True, 3000))
        self.assertEqual(find_run(LOOKING, 4), ("none", 2991))
        self.assertEqual(find_run(ROUNDS, 5), ("gave up",))
        self.assertEqual(find_run(ROUNDS, 5, most=3125), ("none", 3125))
        self.assertEqual(find_run(ROUNDS, 5, most=3124), ("gave up",))


class BesideTheModel(RunCase):
    def test_made_tables(self):
        seen = set()
        for seed in range(300):
            for many, order in ((1, True), (2, False), (2, True)):
                found = self.told(made_table(seed), many, order, 12)
                seen.add(found[0] if found[0] != "run" else found[2][0])
        self.assertEqual(seen, {"none", "gave up", "old", "full", "norow", "clash", "stuck"})

    def test_tables_changed_once(self):
        seen = set()
        for table in (CALLING, KNOWING, BRINGING):
            for place, changed in enumerate(changed_once(table)):
                found = self.told(changed, 1 + place % 2, place % 3 > 0, 60)
                seen.add(found[0] if found[0] != "run" else found[2][0])
        for table in (LOOKING, MINDING):
            for changed in itertools.islice(changed_once(table), 0, None, 7):
                seen.add(self.told(changed, 3, True, 90)[0])
        self.assertLessEqual({"none", "gave up", "run", "old", "norow", "stuck"}, seen)


if __name__ == "__main__":
    unittest.main()

"""Runs of deeds from the start, and the same runs with the hands renamed."""

import copy
import itertools
import unittest

from copyclerk.errors import NoDeed
from copyclerk.standings import clash, renamed, start
from copyclerk.steps import may, play, step, stuck
from copyclerk.tabletext import read_table
from tests.builders import StepCase, line, standing, table_of
from tests.samples import EXAMPLE, SHARING_TEXT
from tests.walks import made_table, walked

SHARING = read_table(SHARING_TEXT)
FORTY = 10 ** 40 - 1


class Played(StepCase):
    def played(self, table, many, deeds):
        kept = copy.deepcopy((table, deeds))
        told = play(table, many, deeds)
        self.assertIs(type(told), tuple)
        self.check_standing(told[0])
        self.assertIs(type(told[1]), list)
        self.assertEqual((table, deeds), kept)
        return told

    def test_no_deeds(self):
        for many in (0, 1, 2, 20):
            self.assertEqual(self.played(SHARING, many, []), (start(SHARING, many), [], None))

    def test_the_example(self):
        deeds = [("ask", 0, "write", 5), ("ask", 1, "write", -6), ("get", 0, 0), ("take", 0, 0),
                 ("ask", 0, "drop"), ("get", 0, 0), ("get", 1, 0), ("take", 1, 0)]
        behind = standing(line("idle", want=5), line("mine", (2, -6), -6, flags=2),
                          state="out", store=(1, 5), last=(2, -6))
        self.assertEqual(self.played(EXAMPLE, 2, deeds), (behind, [("wrote", 0, 5), ("wrote", 1, -6)], None))

    def test_answers_of_both_sorts(self):
        deeds = [
            ("ask", 0, "read"), ("ask", 1, "read"), ("get", 1, 0), ("get", 0, 0), ("take", 0, 0), ("take", 1, 0),
            ("ask", 1, "read"), ("ask", 2, "write", FORTY), ("get", 2, 0), ("take", 0, 0), ("take", 1, 0),
            ("get", 0, 0), ("get", 1, 0), ("get", 2, 0), ("take", 2, 0), ("ask", 2, "read"),
            ("ask", 2, "write", -1), ("ask", 0, "read"), ("get", 0, 0), ("take", 2, 0), ("get", 2, 0),
            ("get", 0, 0), ("take", 0, 0),
        ]
        behind = standing(line("look", (2, -1), flags=1), line(), line(want=-1),
                          state="lent", store=(2, -1), last=(2, -1))
        answers = [("read", 0, 0), ("read", 1, 0), ("read", 1, 0), ("wrote", 2, FORTY), ("read", 2, FORTY),
                   ("wrote", 2, -1), ("read", 0, -1)]
        self.assertEqual(self.played(SHARING, 3, deeds), (behind, answers, None))
        # Each run that ends earlier has the answers up to there.
        for many in range(len(deeds)):
            told = self.played(SHARING, 3, deeds[:many])
            self.assertIsNone(told[2])
            self.assertEqual(told[1], answers[:len(told[1])])

    def test_letters_out_of_their_order(self):
        table = table_of("hand idle read -> idle: send a bare", "hand idle drop -> idle: send b bare",
                         "house home b any -> home: share")
        told = self.played(table, 1, [("ask", 0, "read"), ("ask", 0, "drop"), ("get", 0, 1)])
        self.assertEqual(told, (standing(line(back=(("a", None),), flags=1)), [], None))

    BREAKING = table_of("hand idle write -> idle: put", "hand idle read -> idle: tell",
                        "hand idle drop -> idle: send x bare")

    def test_a_run_that_breaks_in_its_middle(self):
        deeds = [("ask", 0, "write", 4), ("ask", 0, "read"), ("ask", 1, "read"), ("ask", 0, "write", 5),
                 ("ask", 0, "read")]
        behind = standing(line(value=(1, 4), want=4), line(), last=(1, 4))
        self.assertEqual(self.played(self.BREAKING, 2, deeds),
                         (behind, [("wrote", 0, 4), ("read", 0, 4)], ("old",)))

    def test_a_run_that_breaks_at_once_and_at_its_end(self):
        self.assertEqual(self.played(self.BREAKING, 1, [("ask", 0, "read"), ("ask", 0, "write", 1)]),
                         (start(self.BREAKING, 1), [], ("old",)))
        drops = [("ask", 0, "drop")] * 3
        two = (("x", None), ("x", None))
        self.assertEqual(self.played(self.BREAKING, 1, drops[:2]), (standing(line(back=two)), [], None))
        self.assertEqual(self.played(self.BREAKING, 1, drops), (standing(line(back=two)), [], ("full",)))

    def test_each_break_ends_a_run(self):
        table = table_of("hand idle write -> mine: put", "hand idle drop -> wait: send x bare",
                         "hand wait drop -> wait: send x bare", "hand wait read -> wait: tell")
        for deeds, word, answers in (
                ([("ask", 0, "drop"), ("get", 0, 0)], "norow", []),
                ([("ask", 0, "drop")] * 3, "full", []),
                ([("ask", 0, "drop"), ("ask", 0, "read")], "old", []),
                ([("ask", 0, "write", 3), ("ask", 1, "write", 4)], "clash", [("wrote", 0, 3)])):
            last_one_left_out = self.played(table, 2, deeds[:-1])
            self.assertEqual(last_one_left_out[1:], (answers, None))
            self.assertEqual(self.played(table, 2, deeds), (last_one_left_out[0], answers, (word,)))

    def test_behind_a_break_no_deed_is_done_or_refused(self):
        ahead = [("ask", 0, "write", 4), ("ask", 1, "read")]
        wanted = self.played(self.BREAKING, 2, ahead)
        self.assertEqual(wanted[2], ("old",))
        for deed in (("ask", 0, "write", 9), ("ask", 2, "read"), ("ask", -1, "read"), ("take", 0, 0),
                     ("get", 0, 7), ("ask", 0, "drop")):
            self.assertEqual(self.played(self.BREAKING, 2, ahead + [deed]), wanted)
            self.assertEqual(self.played(self.BREAKING, 2, ahead + [deed] * 3), wanted)

    def test_a_deed_that_may_not_be_done_ahead_of_a_break(self):
        for deed in (("ask", 2, "read"), ("ask", -1, "read"), ("take", 0, 0), ("get", 0, 0), ("get", 0, -1)):
            for deeds in ([deed], [deed, ("ask", 1, "read")], [("ask", 0, "write", 4), deed, ("ask", 1, "read")]):
                kept = list(deeds)
                with self.assertRaises(NoDeed):
                    play(self.BREAKING, 2, deeds)
                self.assertEqual(deeds, kept)

    def test_a_deed_of_no_hands(self):
        with self.assertRaises(NoDeed):
            play(self.BREAKING, 0, [("ask", 0, "write", 4)])

    def test_a_letter_that_waits(self):
        deeds = [("ask", 0, "write", 1), ("ask", 1, "write", 2), ("get", 0, 0)]
        self.assertIsNone(self.played(EXAMPLE, 2, deeds)[2])
        with self.assertRaises(NoDeed):
            play(EXAMPLE, 2, deeds + [("get", 1, 0)])

    def test_the_answers_told_are_the_askers_own(self):
        deeds = [("ask", 0, "write", 4), ("ask", 0, "read")]
        first = self.played(self.BREAKING, 1, deeds)[1]
        first.append("gone")
        first.reverse()
        self.assertEqual(self.played(self.BREAKING, 1, deeds)[1], [("wrote", 0, 4), ("read", 0, 4)])
        self.played(self.BREAKING, 1, [])[1].append("gone")
        self.assertEqual(self.played(self.BREAKING, 1, [])[1], [])

    def test_changed_deeds_change_no_answer(self):
        deeds = [("ask", 0, "write", 4), ("ask", 0, "read")]
        told = self.played(self.BREAKING, 1, deeds)
        deeds.clear()
        self.assertEqual(told[1], [("wrote", 0, 4), ("read", 0, 4)])

    def test_two_hundred_deeds(self):
        deeds = [("ask", 0, "write", FORTY - k) for k in range(200)]
        told = self.played(self.BREAKING, 1, deeds)
        self.assertEqual(told[0][2], (200, FORTY - 199))
        self.assertEqual(told[1], [("wrote", 0, FORTY - k) for k in range(200)])


class HandsRenamed(unittest.TestCase):
    """In a standing renamed by an order, the hand named at place k is hand k."""

    def deed_of(self, deed, order):
        return deed[:1] + (order.index(deed[1]),) + deed[2:]

    def answer_of(self, answer, order):
        return answer and (answer[0], order.index(answer[1]), answer[2])

    def check_step(self, table, before, deed, order):
        behind, answer, broken = step(table, before, deed)
        self.assertEqual(step(table, renamed(before, order), self.deed_of(deed, order)),
                         (renamed(behind, order), self.answer_of(answer, order), broken))

    def check_run(self, table, many, deeds, order):
        behind, answers, broken = play(table, many, deeds)
        self.assertEqual(play(table, many, [self.deed_of(deed, order) for deed in deeds]),
                         (renamed(behind, order), [self.answer_of(answer, order) for answer in answers], broken))

    def check_asked(self, table, before, order):
        other = renamed(before, order)
        for keeps in (True, False):
            self.assertEqual(sorted(may(table, other, keeps), key=repr),
                             sorted([self.deed_of(deed, order) for deed in may(table, before, keeps)], key=repr))
            self.assertIs(stuck(table, other, keeps), stuck(table, before, keeps))
        self.assertIs(clash(table, other), clash(table, before))

    def test_two_hands_exchanged(self):
        deeds = [("ask", 0, "write", 5), ("ask", 1, "write", 6), ("get", 1, 0), ("take", 1, 0)]
        told = play(EXAMPLE, 2, deeds)
        other = play(EXAMPLE, 2, [("ask", 1, "write", 5), ("ask", 0, "write", 6), ("get", 0, 0), ("take", 0, 0)])
        self.assertEqual(told[1:], ([("wrote", 1, 6)], None))
        self.assertEqual(other[1:], ([("wrote", 0, 6)], None))
        self.assertEqual(other[0], renamed(told[0], [1, 0]))
        self.assertNotEqual(other[0], told[0])

    def test_a_run_that_breaks(self):
        table = table_of("hand idle write -> idle: put", "hand idle read -> idle: tell")
        told = play(table, 2, [("ask", 0, "write", 5), ("ask", 1, "read")])
        other = play(table, 2, [("ask", 1, "write", 5), ("ask", 0, "read")])
        self.assertEqual(told[1:], ([("wrote", 0, 5)], ("old",)))
        self.assertEqual(other, (renamed(told[0], [1, 0]), [("wrote", 1, 5)], ("old",)))

    def test_walks_and_each_order(self):
        for number, table in enumerate([EXAMPLE, SHARING] + [made_table(seed) for seed in range(100, 130)]):
            walk = list(walked(table, 3, number, length=60))
            for order in map(list, itertools.permutations(range(3))):
                for before, deed in walk:
                    self.check_step(table, before, deed, order)
                    self.check_asked(table, before, order)
                self.check_run(table, 3, [deed for before, deed in walk], order)


if __name__ == "__main__":
    unittest.main()

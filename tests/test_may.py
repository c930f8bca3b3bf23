"""Which deeds may be done, in their order, and where a standing is stuck."""

import copy
import itertools
import unittest

from copyclerk.steps import may, stuck
from tests.builders import line, standing, table_of

A = ("a", None)
B = ("b", (0, 0))
W = ("w", None)
N = ("n", (0, 0))

# At the house a and b have rows, w waits, n has none; at a hand in idle a and b have rows.
TABLE = table_of("hand idle drop -> idle", "hand idle write -> idle", "hand idle read -> idle",
                 "hand wait write -> idle", "hand idle a -> idle", "hand idle b -> idle",
                 "house home w any -> home: wait", "house home a any -> home", "house home b last -> home",
                 "house out a any -> out: wait", "house out w any -> out")


class MayCase(unittest.TestCase):
    def told(self, before, *order, table=TABLE):
        kept = copy.deepcopy((table, before))
        deeds = may(table, before, *order)
        self.assertIs(type(deeds), list)
        for deed in deeds:
            self.assertIs(type(deed), tuple)
        self.assertEqual((table, before), kept)
        return deeds

    def check_both(self, before, wanted, table=TABLE):
        self.assertEqual(self.told(before, True, table=table), wanted)
        self.assertEqual(self.told(before, False, table=table), wanted)


class May(MayCase):
    def test_no_hands(self):
        self.check_both(standing(), [])

    def test_asks_in_their_order(self):
        self.check_both(standing(line()), [("ask", 0, "read"), ("ask", 0, "write", 0), ("ask", 0, "drop")])

    def test_asks_that_have_a_row(self):
        self.check_both(standing(line("wait")), [("ask", 0, "write", 0)])
        self.check_both(standing(line("look")), [])
        self.check_both(standing(line("wait", want=17)), [("ask", 0, "write", 0)])
        events = ("read", "write", "drop")
        for some in itertools.chain.from_iterable(itertools.combinations(events, many) for many in range(4)):
            table = table_of(*[f"hand idle {event} -> wait" for event in reversed(some)])
            wanted = [("ask", 0, event) + ((0,) if event == "write" else ()) for event in some]
            self.check_both(standing(line()), wanted, table)

    def test_hand_by_hand_asks_letters_to_take_letters_to_get(self):
        before = standing(line("wait", to=(A, B), back=(B, A)), line("look"), line(to=(B,), back=(A, B)))
        self.assertEqual(self.told(before, True), [
            ("ask", 0, "write", 0), ("take", 0, 0), ("get", 0, 0),
            ("ask", 2, "read"), ("ask", 2, "write", 0), ("ask", 2, "drop"), ("take", 2, 0), ("get", 2, 0)])
        self.assertEqual(self.told(before, False), [
            ("ask", 0, "write", 0), ("take", 0, 0), ("take", 0, 1), ("get", 0, 0), ("get", 0, 1),
            ("ask", 2, "read"), ("ask", 2, "write", 0), ("ask", 2, "drop"), ("take", 2, 0),
            ("get", 2, 0), ("get", 2, 1)])

    def test_order_left_out_is_true(self):
        before = standing(line(to=(A, B), back=(B, A)), line(to=(A, A), back=(W, A)))
        self.assertEqual(self.told(before), self.told(before, True))
        self.assertNotEqual(self.told(before), self.told(before, False))
        self.assertEqual(may(TABLE, before, order=False), self.told(before, False))
        self.assertEqual(may(table=TABLE, standing=before, order=True), self.told(before))

    def test_letters_at_both_places(self):
        for word, way in (("take", dict(to=(A, B))), ("get", dict(back=(A, B)))):
            before = standing(line("look", **way))
            self.assertEqual(self.told(before, True), [(word, 0, 0)])
            self.assertEqual(self.told(before, False), [(word, 0, 0), (word, 0, 1)])

    def test_letters_without_a_row_are_told(self):
        before = standing(line("look", to=(N, A), back=(N, N)))
        self.assertEqual(self.told(before, True), [("take", 0, 0), ("get", 0, 0)])
        self.assertEqual(self.told(before, False), [("take", 0, 0), ("take", 0, 1), ("get", 0, 0), ("get", 0, 1)])
        # b has the row of last alone: beside another one that shares it has none.
        self.check_both(standing(line("look", back=(B,)), line("look", flags=1)), [("get", 0, 0)])

    def test_letters_that_wait_are_not_told(self):
        self.check_both(standing(line("look", back=(W,))), [])
        self.check_both(standing(line("look", back=(W, W))), [])
        before = standing(line("look", back=(W, A)))
        self.assertEqual(self.told(before, True), [])
        self.assertEqual(self.told(before, False), [("get", 0, 1)])
        self.check_both(standing(line("look", back=(A, W))), [("get", 0, 0)])

    def test_waiting_hangs_on_the_houses_state(self):
        lines = (line("look", back=(A,)), line("look", back=(W,)))
        self.check_both(standing(*lines), [("get", 0, 0)])
        self.check_both(standing(*lines, state="out"), [("get", 1, 0)])
        self.check_both(standing(*lines, state="busy"), [("get", 0, 0), ("get", 1, 0)])

    def test_a_letter_to_a_hand_never_waits(self):
        self.check_both(standing(line("look", to=(W,))), [("take", 0, 0)])

    def test_deeds_that_break_are_told(self):
        table = table_of("hand idle read -> idle: tell", "hand idle write -> mine: put",
                         "hand idle drop -> idle: send x bare")
        before = standing(line(back=(A, A)), line("mine"))
        self.assertEqual(self.told(before, True, table=table), [
            ("ask", 0, "read"), ("ask", 0, "write", 0), ("ask", 0, "drop"), ("get", 0, 0)])

    def test_twenty_hands(self):
        self.check_both(standing(*[line("wait")] * 20), [("ask", hand, "write", 0) for hand in range(20)])

    def test_the_list_told_is_the_askers_own(self):
        before = standing(line(to=(A,)), line("wait"))
        first = self.told(before)
        kept = list(first)
        first.append(("gone",))
        first.reverse()
        self.assertEqual(self.told(before), kept)
        self.told(before).clear()
        self.assertEqual(self.told(before), kept)


class Stuck(unittest.TestCase):
    def check(self, before, by_order, without, table=TABLE):
        kept = copy.deepcopy((table, before))
        with self.subTest(before=before):
            self.assertIs(stuck(table, before, True), by_order)
            self.assertIs(stuck(table, before), by_order)
            self.assertIs(stuck(table, before, order=False), without)
            self.assertEqual((table, before), kept)

    def test_without_letters(self):
        self.check(standing(), False, False)
        self.check(standing(line()), False, False)
        self.check(standing(line("look")), False, False)
        self.check(standing(line("look"), line("look", flags=3), state="busy"), False, False)

    def test_letters_that_may_come(self):
        self.check(standing(line("look", to=(A,))), False, False)
        self.check(standing(line("look", back=(A,))), False, False)
        self.check(standing(line(back=(A, W))), False, False)

    def test_letters_that_all_wait(self):
        self.check(standing(line("look", back=(W,))), True, True)
        self.check(standing(line("look", back=(W, W))), True, True)
        self.check(standing(line("look", back=(W,)), line("look"), line("look", back=(W, W))), True, True)

    def test_asks_do_not_count(self):
        self.check(standing(line(back=(W,)), line()), True, True)

    def test_one_letter_that_may_come_among_those_that_wait(self):
        self.check(standing(line(back=(W,)), line(back=(W, W)), line(back=(A,))), False, False)
        self.check(standing(line(back=(W,)), line(back=(W, W)), line(to=(A,))), False, False)
        self.check(standing(line(to=(A,), back=(W,))), False, False)
        self.check(standing(line(back=(A,)), line(back=(W,))), False, False)

    def test_a_letter_behind_one_that_waits(self):
        self.check(standing(line("look", back=(W, A))), True, False)
        self.check(standing(line("look", back=(W, N))), True, False)
        self.check(standing(line("look", back=(W, W)), line(back=(W, A))), True, False)

    def test_letters_without_a_row_may_come(self):
        self.check(standing(line("look", to=(N,))), False, False)
        self.check(standing(line("look", back=(N,))), False, False)
        self.check(standing(line("look", back=(W,)), line(back=(N,))), False, False)

    def test_it_hangs_on_the_houses_state(self):
        self.check(standing(line(back=(A,)), state="out"), True, True)
        self.check(standing(line(back=(W,)), state="out"), False, False)
        self.check(standing(line(back=(W,)), state="busy"), False, False)


if __name__ == "__main__":
    unittest.main()

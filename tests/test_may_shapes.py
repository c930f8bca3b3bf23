"""Where a shape may clash, and where it may be stuck: just where some standing that lies in it does, or is."""

import copy
import itertools
import random
import unittest

from copyclerk.shapes import may_be_stuck, may_clash
from copyclerk.standings import clash
from copyclerk.steps import stuck
from tests.builders import config, shape, table_of
from tests.model import clashes, model_stuck, opened
from tests.shapemodel import standings_in
from tests.walks import made_shape, made_table

COUNTS = ("one", "some", "any")


class MayClash(unittest.TestCase):
    # Two states of each right, so that one right may stand in unlike states.
    TABLE = (
        (("na", "none"), ("nb", "none"), ("ra", "read"), ("rb", "read"), ("wa", "write"), ("wb", "write")),
        ("ra", "wa"), (),
    )

    def check(self, within, wanted, table=TABLE):
        kept = copy.deepcopy((table, within))
        with self.subTest(within=within):
            self.assertIs(may_clash(table, within), wanted)
            self.assertEqual((table, within), kept)
            found = standings_in(within)
            self.assertEqual(any(clash(table, before) for before in found), wanted)
            self.assertEqual(any(clashes(table, opened(before)) for before in found), wanted)

    def check_states(self, *pairs, wanted):
        self.check(shape(*[(config(state), count) for state, count in pairs], state="wa"), wanted)

    def test_no_configs(self):
        self.check_states(wanted=False)

    def test_the_right_write_alone(self):
        for state in ("wa", "wb"):
            self.check_states((state, "one"), wanted=False)
            self.check_states((state, "some"), wanted=True)
            self.check_states((state, "any"), wanted=True)

    def test_other_rights_alone(self):
        for state, count in itertools.product(("na", "nb", "ra", "rb"), COUNTS):
            self.check_states((state, count), wanted=False)

    def test_write_beside_another_one(self):
        for count, other in itertools.product(COUNTS, repeat=2):
            for state in ("ra", "rb", "wb"):
                self.check_states(("wa", count), (state, other), wanted=True)
                self.check_states((state, other), ("wa", count), wanted=True)
            self.check_states(("wa", count), ("na", other), wanted=count != "one")
            self.check_states(("wb", count), ("nb", other), wanted=count != "one")

    def test_read_beside_read_and_none(self):
        for count, other in itertools.product(COUNTS, repeat=2):
            self.check_states(("ra", count), ("rb", other), wanted=False)
            self.check_states(("ra", count), ("na", other), wanted=False)
            self.check_states(("na", count), ("nb", other), wanted=False)

    def test_two_configs_of_one_state(self):
        for state, wanted in (("wa", True), ("ra", False), ("na", False)):
            for count, other in itertools.product(COUNTS, repeat=2):
                pairs = (config(state), count), (config(state, "last"), other)
                self.check(shape(*pairs), wanted)

    def test_all_of_three_states(self):
        for states in itertools.combinations(("na", "nb", "ra", "rb", "wa", "wb"), 3):
            for counts in itertools.product(COUNTS, repeat=3):
                rights = [state[0] for state in states]
                busy = [counts[place] for place in range(3) if rights[place] == "w"]
                wanted = bool(busy) and (busy != ["one"] or "r" in rights)
                self.check_states(*zip(states, counts), wanted=wanted)

    def test_nothing_else_of_a_config_matters(self):
        letters = (("a", "last"), ("b", "bare"))
        for mark, to, back, flags in itertools.product(("none", "old"), ((), letters), ((), letters), range(4)):
            self.check(shape((config("wa", mark, to, back, flags), "one")), False)
            self.check(shape((config("wa", mark, to, back, flags), "any")), True)
            self.check(shape((config("wa"), "one"), (config("ra", mark, to, back, flags), "any")), True)

    def test_made_shapes(self):
        chance = random.Random(11)
        for number in range(40):
            table = made_table(number)
            for many in range(5):
                within = made_shape(chance, many)
                found = standings_in(within)
                self.check(within, any(clash(table, before) for before in found), table)


A = ("a", "bare")
B = ("b", "last")
W = ("w", "old")
V = ("v", "bare")
N = ("n", "bare")
C = ("c", "bare")
D = ("d", "bare")

# At home a has a row of any, b one of last, c one of more, d both; w and v wait; n has none.
TABLE = table_of("house home a any -> home", "house home b last -> home", "house home c more -> home",
                 "house home d last -> home", "house home d more -> out", "house home w any -> home: wait",
                 "house home v any -> out: wait", "house out a any -> out: wait", "house out w any -> out",
                 "hand idle read -> idle", "hand idle w -> idle", "hand idle a -> idle")


def holds(state="idle", to=(), back=()):
    return config(state, "none", to, back)


class MayBeStuck(unittest.TestCase):
    def check(self, within, by_order, without, table=TABLE):
        kept = copy.deepcopy((table, within))
        with self.subTest(within=within):
            self.assertIs(may_be_stuck(table, within, True), by_order)
            self.assertIs(may_be_stuck(table, within), by_order)
            self.assertIs(may_be_stuck(table, within, order=False), without)
            self.assertEqual((table, within), kept)
            found = standings_in(within)
            for order, wanted in ((True, by_order), (False, without)):
                self.assertEqual(any(stuck(table, before, order) for before in found), wanted)
                self.assertEqual(any(model_stuck(table, before, order) for before in found), wanted)

    def test_no_configs(self):
        self.check(shape(), False, False)

    def test_no_letters(self):
        for count in COUNTS:
            self.check(shape((holds(), count)), False, False)
            self.check(shape((holds(), count), (holds("look"), "any")), False, False)

    def test_letters_to_the_house_that_wait(self):
        for count, back in itertools.product(COUNTS, ((W,), (V,), (W, W), (W, V), (V, W))):
            self.check(shape((holds(back=back), count)), True, True)

    def test_letters_to_the_house_that_do_not_wait(self):
        for count, one in itertools.product(COUNTS, (A, B, C, D, N)):
            self.check(shape((holds(back=(one,)), count)), False, False)
            self.check(shape((holds(back=(one, one)), count)), False, False)
            self.check(shape((holds(back=(one, W)), count)), False, False)

    def test_letters_behind_one_that_waits(self):
        for count, one in itertools.product(COUNTS, (A, B, C, D, N)):
            self.check(shape((holds(back=(W, one)), count)), True, False)

    def test_letters_to_the_hand_at_the_same_config(self):
        for count, to in itertools.product(COUNTS, ((A,), (W,), (N,), (W, W))):
            self.check(shape((holds(to=to, back=(W,)), count)), False, False)
            self.check(shape((holds("mine", to=to, back=(W, W)), count)), False, False)

    def test_letters_to_the_hand_alone(self):
        for count, to in itertools.product(COUNTS, ((A,), (W,), (N,), (W, W))):
            self.check(shape((holds(to=to), count)), False, False)

    def test_another_config_with_letters_to_the_hand(self):
        for count, other, one in itertools.product(COUNTS, COUNTS, (A, W, N)):
            within = shape((holds(back=(W,)), count), (holds("look", to=(one,)), other))
            self.check(within, other == "any", other == "any")
            within = shape((holds(back=(W,)), count), (holds("look", to=(one,), back=(W,)), other))
            self.check(within, other == "any", other == "any")

    def test_another_config_with_letters_to_the_house(self):
        for count, other, one in itertools.product(COUNTS, COUNTS, (A, B, C, D, N)):
            within = shape((holds(back=(W,)), count), (holds("look", back=(one,)), other))
            self.check(within, other == "any", other == "any")
            within = shape((holds(back=(W,)), count), (holds("look", back=(W, one)), other))
            self.check(within, True, other == "any")
            within = shape((holds(back=(W,)), count), (holds("look", back=(one, W)), other))
            self.check(within, other == "any", other == "any")

    def test_another_config_without_letters_or_one_that_waits_too(self):
        for count, other in itertools.product(COUNTS, repeat=2):
            self.check(shape((holds(back=(W,)), count), (holds("look"), other)), True, True)
            self.check(shape((holds(back=(W,)), count), (holds("look", back=(V, W)), other)), True, True)

    def test_a_config_that_may_move_on_either_side_in_the_sorting(self):
        for state, count in itertools.product(("idle", "mine"), COUNTS):
            within = shape((holds("look", back=(W,)), "one"), (holds(state, to=(A,)), count))
            self.check(within, count == "any", count == "any")

    def test_it_hangs_on_the_houses_state(self):
        self.check(shape((holds(back=(A,)), "one"), state="out"), True, True)
        self.check(shape((holds(back=(W,)), "one"), state="out"), False, False)
        self.check(shape((holds(back=(V,)), "one"), state="out"), False, False)
        self.check(shape((holds(back=(W,)), "one"), state="busy"), False, False)
        self.check(shape((holds(back=(A, W)), "one"), state="out"), True, False)

    def test_sharers_do_not_matter(self):
        for flags, other in itertools.product(range(4), range(4)):
            sharing = config("idle", "none", (), (W,), flags)
            self.check(shape((sharing, "some"), (config("look", flags=other), "one")), True, True)
            moving = config("idle", "none", (), (B,), flags)
            self.check(shape((moving, "some"), (config("look", flags=other), "one")), False, False)

    def test_all_of_three_configs(self):
        configs = (holds(back=(W,)), holds("look", back=(W, A)), holds("mine", to=(A,)), holds("wait"))
        for chosen in itertools.combinations(configs, 3):
            for counts in itertools.product(COUNTS, repeat=3):
                within = shape(*zip(chosen, counts))
                found = standings_in(within)
                self.check(within, any(stuck(TABLE, before, True) for before in found),
                           any(stuck(TABLE, before, False) for before in found))

    def test_made_shapes(self):
        chance = random.Random(12)
        seen = set()
        for number in range(60):
            table = made_table(number)
            for many in (1, 2, 3, 4):
                within = made_shape(chance, many)
                found = standings_in(within)
                wanted = [any(stuck(table, before, order) for before in found) for order in (True, False)]
                self.check(within, *wanted, table)
                seen.add(tuple(wanted))
        self.assertEqual(seen, {(True, True), (True, False), (False, False)})


if __name__ == "__main__":
    unittest.main()

"""Marks, configs, shapes: of a standing and of the start, what lies in them, and which is within which."""

import copy
import itertools
import random
import unittest

from copyclerk.shapes import config_of, is_within, lies_in, mark_of, shape_of, start_shape
from copyclerk.standings import renamed, start
from tests.builders import config, line, shape, standing
from tests.samples import EXAMPLE
from tests.shapemodel import model_config, model_lies_in, standings_in
from tests.walks import made_standing

FORTY = 10 ** 40 - 1
COUNTS = ("one", "some", "any")


class Marks(unittest.TestCase):
    def test_no_value(self):
        for last in ((0, 0), (3, 5), (0, FORTY)):
            self.assertEqual(mark_of(None, last), "none")

    def test_a_value_of_lasts_version(self):
        self.assertEqual(mark_of((0, 0), (0, 0)), "last")
        self.assertEqual(mark_of((3, 5), (3, 5)), "last")
        self.assertEqual(mark_of((200, -FORTY), (200, -FORTY)), "last")

    def test_the_number_does_not_matter(self):
        self.assertEqual(mark_of((3, 6), (3, 5)), "last")
        self.assertEqual(mark_of((0, -FORTY), (0, FORTY)), "last")
        self.assertEqual(mark_of((2, 5), (3, 5)), "old")

    def test_a_value_of_another_version(self):
        self.assertEqual(mark_of((0, 0), (1, 0)), "old")
        self.assertEqual(mark_of((2, 5), (3, 9)), "old")
        self.assertEqual(mark_of((4, 5), (3, 5)), "old")
        self.assertEqual(mark_of((1, 0), (10, 0)), "old")


class Configs(unittest.TestCase):
    LAST = (3, 5)
    NEW = (3, 5)
    OLD = (2, 5)

    def check(self, one, wanted, last=LAST):
        kept = copy.deepcopy((one, last))
        told = config_of(one, last)
        self.assertEqual(told, wanted)
        self.check_tuples(told)
        self.assertEqual((one, last), kept)

    def check_tuples(self, told):
        self.assertIs(type(told), tuple)
        for way in told[2:4]:
            self.assertIs(type(way), tuple)
            for letter in way:
                self.assertIs(type(letter), tuple)
        self.assertIs(type(told[4]), int)

    def test_a_line_without_anything(self):
        self.check(line(), ("idle", "none", (), (), 0))

    def test_states_and_flags(self):
        for state, flags in itertools.product(("idle", "mine", "abcdefgh"), (0, 1, 2, 3)):
            self.check(line(state, flags=flags), (state, "none", (), (), flags))

    def test_the_mark_of_its_value(self):
        self.check(line(value=self.NEW), ("idle", "last", (), (), 0))
        self.check(line(value=(3, 6)), ("idle", "last", (), (), 0))
        self.check(line(value=self.OLD), ("idle", "old", (), (), 0))

    def test_a_letter_without_a_value_is_bare(self):
        self.check(line(to=(("give", None),)), ("idle", "none", (("give", "bare"),), (), 0))
        self.check(line(back=(("get", None),)), ("idle", "none", (), (("get", "bare"),), 0))

    def test_letters_with_values(self):
        self.check(line(to=(("give", self.NEW),)), ("idle", "none", (("give", "last"),), (), 0))
        self.check(line(to=(("give", (3, 6)),)), ("idle", "none", (("give", "last"),), (), 0))
        self.check(line(to=(("give", self.OLD),)), ("idle", "none", (("give", "old"),), (), 0))
        self.check(line(back=(("give", self.NEW),)), ("idle", "none", (), (("give", "last"),), 0))
        self.check(line(back=(("give", self.OLD),)), ("idle", "none", (), (("give", "old"),), 0))

    def test_two_letters_on_each_way_in_their_order(self):
        one = line("mine", self.OLD, 8, (("z", self.NEW), ("a", None)), (("b", self.OLD), ("a", self.NEW)), 3)
        self.check(one, ("mine", "old", (("z", "last"), ("a", "bare")), (("b", "old"), ("a", "last")), 3))
        turned = line("mine", self.OLD, 8, one[3][::-1], one[4][::-1], 3)
        self.check(turned, ("mine", "old", (("a", "bare"), ("z", "last")), (("a", "last"), ("b", "old")), 3))

    def test_two_letters_alike(self):
        self.check(line(to=(("a", None),) * 2, back=(("b", self.NEW),) * 2),
                   ("idle", "none", (("a", "bare"),) * 2, (("b", "last"),) * 2, 0))

    def test_kinds_and_states_that_are_called_like_marks(self):
        self.check(line("old", self.NEW, 0, (("none", None), ("last", self.OLD)), (("bare", self.NEW),)),
                   ("old", "last", (("none", "bare"), ("last", "old")), (("bare", "last"),), 0))

    def test_lines_that_differ_in_numbers_and_wants_alone(self):
        one = line("look", (3, 1), 1, (("a", (3, 2)), ("b", (0, 0))), (("c", (1, 0)),), 1)
        two = line("look", (3, -FORTY), 99, (("a", (3, 5)), ("b", (2, 7))), (("c", (0, 4)),), 1)
        self.assertEqual(config_of(one, self.LAST), config_of(two, self.LAST))

    def test_made_lines(self):
        chance = random.Random(5)
        for _ in range(300):
            made = made_standing(chance, 2, ahead=2)
            for one in made[3]:
                self.check(one, model_config(one, made[2]), made[2])


IDLE = config()
LOOK = config("look", "last", flags=1)
MINE = config("mine", "old", (("call", "bare"),), (), 2)


def lines_of(idle=0, look=0, mine=0):
    return ((line(),) * idle + (line("look", (1, 4), flags=1),) * look
            + (line("mine", (0, 0), 3, (("call", None),), (), 2),) * mine)


def standing_of(state="home", store=(1, 4), **numbers):
    return standing(*lines_of(**numbers), state=state, store=store, last=(1, 4))


class ShapeOf(unittest.TestCase):
    def check(self, before, wanted):
        kept = copy.deepcopy(before)
        told = shape_of(before)
        self.assertEqual(told, wanted)
        self.assertIs(type(told), tuple)
        self.assertIs(type(told[2]), tuple)
        for pair in told[2]:
            self.assertIs(type(pair), tuple)
        self.assertEqual(before, kept)
        self.assertIs(lies_in(before, told), True)

    def test_no_hands(self):
        self.check(standing_of(), ("home", "last", ()))
        self.check(standing_of(state="out", store=None), ("out", "none", ()))

    def test_the_stores_mark(self):
        self.check(standing_of(store=(1, 9)), ("home", "last", ()))
        self.check(standing_of(store=(0, 4)), ("home", "old", ()))
        self.check(standing_of(store=None), ("home", "none", ()))

    def test_one_hand(self):
        self.check(standing_of(look=1), ("home", "last", ((LOOK, "one"),)))

    def test_several_hands_alike(self):
        for many in (2, 3, 20):
            self.check(standing_of(look=many), ("home", "last", ((LOOK, "some"),)))

    def test_several_hands_unlike(self):
        self.check(standing_of(idle=1, look=1, mine=1),
                   ("home", "last", ((IDLE, "one"), (LOOK, "one"), (MINE, "one"))))
        self.check(standing_of(idle=3, look=1, mine=2),
                   ("home", "last", ((IDLE, "some"), (LOOK, "one"), (MINE, "some"))))

    def test_sorted_by_config_part_by_part(self):
        a, b = ("a", None), ("b", None)
        parts = [line("idle"), line("idle", flags=1), line("idle", flags=3), line("idle", back=(a,)),
                 line("idle", to=(a,)), line("idle", to=(a, a)), line("idle", to=(a, b)), line("idle", to=(b,)),
                 line("idle", (0, 0)), line("look")]
        configs = [config_of(part, (1, 0)) for part in parts]
        self.assertEqual(configs, sorted(configs))
        chance = random.Random(1)
        for _ in range(30):
            chance.shuffle(parts)
            told = shape_of(standing(*parts, last=(1, 0)))
            self.assertEqual(told, ("home", "old", tuple((each, "one") for each in configs)))

    def test_lines_that_differ_in_numbers_alone_count_as_one_config(self):
        before = standing(line("look", (1, 4), 7, flags=1), line("look", (1, 5), 8, flags=1), store=(1, 4), last=(1, 4))
        self.check(before, ("home", "last", ((LOOK, "some"),)))

    def test_the_hands_in_another_order(self):
        before = standing_of(idle=2, look=1, mine=1)
        for order in itertools.permutations(range(4)):
            self.check(renamed(before, list(order)), shape_of(before))

    def test_made_standings_lie_in_their_shapes(self):
        chance = random.Random(2)
        for many in (0, 1, 2, 3, 6):
            for _ in range(60):
                before = made_standing(chance, many)
                told = shape_of(before)
                self.assertIs(lies_in(before, told), True)
                self.assertTrue(model_lies_in(before, told))
                self.assertEqual([each for each, count in told[2]],
                                 sorted({model_config(one, before[2]) for one in before[3]}))
                self.assertNotIn("any", [count for each, count in told[2]])


class LiesIn(unittest.TestCase):
    def check(self, before, within, wanted):
        kept = copy.deepcopy((before, within))
        with self.subTest(before=before, within=within):
            self.assertIs(lies_in(before, within), wanted)
            self.assertIs(model_lies_in(before, within), wanted)
            self.assertEqual((before, within), kept)

    def test_each_count_and_none_to_three_lines(self):
        fits = {"one": (False, True, False, False), "some": (False, True, True, True), "any": (True,) * 4}
        for count in COUNTS:
            for many in range(4):
                self.check(standing_of(look=many), shape((LOOK, count)), fits[count][many])
                self.check(standing_of(idle=1, look=many), shape((LOOK, count), (IDLE, "some")), fits[count][many])

    def test_twenty_lines(self):
        self.check(standing_of(look=20), shape((LOOK, "one")), False)
        self.check(standing_of(look=20), shape((LOOK, "some")), True)
        self.check(standing_of(look=20), shape((LOOK, "any")), True)

    def test_no_hands(self):
        self.check(standing_of(), shape(), True)
        self.check(standing_of(), shape((IDLE, "any"), (LOOK, "any")), True)
        self.check(standing_of(), shape((IDLE, "any"), (LOOK, "some")), False)
        self.check(standing_of(), shape((IDLE, "one")), False)

    def test_a_line_whose_config_the_shape_has_not(self):
        self.check(standing_of(look=1), shape(), False)
        self.check(standing_of(look=1), shape((IDLE, "any")), False)
        self.check(standing_of(idle=1, look=1), shape((IDLE, "some")), False)
        self.check(standing_of(idle=1, look=1), shape((IDLE, "some"), (MINE, "any")), False)
        self.check(standing_of(idle=1, look=1), shape((IDLE, "some"), (LOOK, "any")), True)

    def test_a_config_unlike_in_one_part_is_another(self):
        for other in (config("idle", "last", flags=1), config("look", "old", flags=1),
                      config("look", "last", (("call", "bare"),), (), 1),
                      config("look", "last", (), (("call", "bare"),), 1), config("look", "last", flags=3)):
            for count in COUNTS:
                self.check(standing_of(look=1), shape((other, count)), False)

    def test_the_houses_state(self):
        self.check(standing_of(look=1), shape((LOOK, "one")), True)
        self.check(standing_of(look=1), shape((LOOK, "one"), state="out"), False)
        self.check(standing_of(look=1, state="out"), shape((LOOK, "one"), state="out"), True)

    def test_the_stores_mark(self):
        for store, mark in ((None, "none"), ((1, 4), "last"), ((1, 5), "last"), ((0, 0), "old")):
            for other in ("none", "last", "old"):
                self.check(standing_of(store=store, look=1), shape((LOOK, "one"), mark=other), mark == other)

    def test_the_hands_in_another_order(self):
        before = standing_of(idle=2, look=1, mine=1)
        good = shape((IDLE, "some"), (LOOK, "one"), (MINE, "any"))
        bad = shape((IDLE, "one"), (LOOK, "one"), (MINE, "any"))
        for order in itertools.permutations(range(4)):
            self.check(renamed(before, list(order)), good, True)
            self.check(renamed(before, list(order)), bad, False)

    def test_all_counts_and_numbers(self):
        for counts in itertools.product(COUNTS, repeat=3):
            within = shape(*zip((IDLE, LOOK, MINE), counts))
            for idle, look, mine in itertools.product(range(3), repeat=3):
                before = standing_of(idle=idle, look=look, mine=mine)
                self.check(before, within, model_lies_in(before, within))


class StartShape(unittest.TestCase):
    WANTED = ("home", "last", ((("idle", "none", (), (), 0), "some"),))

    def test_the_shape(self):
        table = copy.deepcopy(EXAMPLE)
        self.assertEqual(start_shape(table), self.WANTED)
        self.assertEqual(table, EXAMPLE)

    def test_the_first_states_are_those_told_first(self):
        table = ((("zoo", "write"), ("ape", "none")), ("yard", "barn"), ())
        self.assertEqual(start_shape(table), ("yard", "last", ((("zoo", "none", (), (), 0), "some"),)))

    def test_starts_lie_in_it(self):
        for many in range(1, 21):
            self.assertIs(lies_in(start(EXAMPLE, many), start_shape(EXAMPLE)), True)

    def test_the_start_of_no_hands_does_not(self):
        self.assertIs(lies_in(start(EXAMPLE, 0), start_shape(EXAMPLE)), False)

    def test_it_is_that_of_the_start_of_two_hands(self):
        self.assertEqual(start_shape(EXAMPLE), shape_of(start(EXAMPLE, 2)))


class Within(unittest.TestCase):
    def check(self, one, other, wanted):
        kept = copy.deepcopy((one, other))
        with self.subTest(one=one, other=other):
            self.assertIs(is_within(one, other), wanted)
            self.assertEqual((one, other), kept)

    def test_each_count_against_each(self):
        fits = {"one": ("one",), "some": ("one", "some"), "any": ("one", "some", "any")}
        for here, there in itertools.product(COUNTS, repeat=2):
            self.check(shape((LOOK, here)), shape((LOOK, there)), here in fits[there])
            self.check(shape((IDLE, "one"), (LOOK, here), (MINE, "any")),
                       shape((IDLE, "some"), (LOOK, there), (MINE, "any")), here in fits[there])

    def test_a_config_that_lacks_here(self):
        for there in COUNTS:
            self.check(shape(), shape((LOOK, there)), there == "any")
            self.check(shape((IDLE, "one")), shape((IDLE, "one"), (LOOK, there)), there == "any")

    def test_a_config_that_lacks_there(self):
        for here in COUNTS:
            self.check(shape((LOOK, here)), shape(), False)
            self.check(shape((LOOK, here)), shape((IDLE, "any")), False)
            self.check(shape((IDLE, "one"), (LOOK, here)), shape((IDLE, "any")), False)

    def test_house_and_mark_unlike(self):
        for state, mark in itertools.product(("home", "out"), ("none", "last", "old")):
            one = shape((LOOK, "one"), state=state, mark=mark)
            for other_state, other_mark in itertools.product(("home", "out"), ("none", "last", "old")):
                other = shape((LOOK, "any"), state=other_state, mark=other_mark)
                self.check(one, other, (state, mark) == (other_state, other_mark))

    def test_no_configs(self):
        self.check(shape(), shape(), True)
        self.check(shape(), shape((IDLE, "any"), (LOOK, "any")), True)
        self.check(shape(), shape((IDLE, "any"), (LOOK, "some")), False)

    def test_every_shape_is_within_itself(self):
        for one in self.all_shapes():
            self.check(one, one, True)

    def all_shapes(self):
        for counts in itertools.product((None,) + COUNTS, repeat=3):
            yield shape(*[(each, count) for each, count in zip((IDLE, LOOK, MINE), counts) if count])

    def test_just_where_all_that_lies_in_one_lies_in_the_other(self):
        # Two lines of a config tell some from one, and none tells any from some.
        inside = {one: standings_in(one) for one in self.all_shapes()}
        for one, other in itertools.product(inside, repeat=2):
            self.check(one, other, all(model_lies_in(before, other) for before in inside[one]))


if __name__ == "__main__":
    unittest.main()

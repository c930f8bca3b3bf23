"""After beside a second teller of it, and beside the steps of the standings that lie in a shape; runs of shapes."""

import random
import unittest

from copyclerk.after import after
from copyclerk.shapes import config_of, is_within, lies_in, may_clash, shape_of, start_shape
from copyclerk.standings import start
from copyclerk.steps import may, play, step
from copyclerk.store import first_wrong, plain
from copyclerk.tabletext import read_table
from tests.model import model_may, model_step
from tests.samples import EXAMPLE, SHARING_TEXT
from tests.shapemodel import model_after, model_config, model_lies_in, standings_in
from tests.walks import made_shape, made_standing, made_table, walked, wider, with_numbers

SHARING = read_table(SHARING_TEXT)
MADE = [made_table(seed) for seed in range(60)]


def word_of(standing, deed):
    return (deed[0], model_config(standing[3][deed[1]], standing[2]), deed[2])


def is_told(found, word, told):
    """Whether a list of after tells what a step made of a standing."""
    behind, answer, broken = told
    if broken:
        return (word, broken[0], ()) in found
    return any(each[:2] == (word, "") and model_lies_in(behind, each[2]) for each in found)


class BesideTheModel(unittest.TestCase):
    def check(self, table, within):
        for order in (True, False):
            found = after(table, within, order)
            self.assertEqual(found, model_after(table, within, order))
            for word, fault, behind in found:
                if fault == "":
                    clashes = (word, "clash", ()) in found
                    self.assertLessEqual(may_clash(table, behind), clashes)
                    self.assertTrue(is_within(behind, behind))

    def test_made_shapes(self):
        chance = random.Random(21)
        for number, table in enumerate(MADE):
            for many in range(7):
                with self.subTest(table=number, many=many):
                    self.check(table, made_shape(chance, many))

    def test_shapes_of_walks(self):
        for number, table in enumerate(MADE + [EXAMPLE, SHARING]):
            with self.subTest(table=number):
                for standing, deed in walked(table, 4, number, length=12):
                    self.check(table, shape_of(standing))

    def test_each_thing_that_can_be_told_is_told(self):
        chance = random.Random(22)
        seen = {(each[0][0], each[1]) for table in MADE for _ in range(4)
                for each in after(table, made_shape(chance, 4))}
        for word in ("ask", "take"):
            for fault in ("", "old", "full", "clash"):
                self.assertIn((word, fault), seen)
        for told in (("take", "norow"), ("get", ""), ("get", "norow"), ("get", "full"), ("get", "clash")):
            self.assertIn(told, seen)


class BesideSteps(unittest.TestCase):
    """What a step makes is told, and what is told is made by some step."""

    def check_steps(self, table, standing, within):
        self.assertTrue(lies_in(standing, within))
        for order in (True, False):
            found = after(table, within, order)
            for deed in may(table, standing, order):
                word = (deed[0], config_of(standing[3][deed[1]], standing[2]), deed[2])
                self.assertEqual(word, word_of(standing, deed))
                self.assertTrue(is_told(found, word, step(table, standing, deed)), (within, standing, deed))

    def check_shape_and_wider_ones(self, chance, table, standing):
        own = shape_of(standing)
        self.check_steps(table, standing, own)
        for more in (0, 1, 3):
            within = wider(chance, own, more)
            self.assertTrue(is_within(own, within))
            self.check_steps(table, standing, within)

    def test_made_standings(self):
        chance = random.Random(31)
        for number, table in enumerate(MADE):
            for many in (0, 1, 2, 3, 4):
                with self.subTest(table=number, many=many):
                    self.check_shape_and_wider_ones(chance, table, made_standing(chance, many))

    def test_walks(self):
        chance = random.Random(32)
        for number, table in enumerate(MADE + [EXAMPLE, SHARING]):
            with self.subTest(table=number):
                for standing, deed in walked(table, 3, number, length=10):
                    self.check_shape_and_wider_ones(chance, table, standing)

    def test_all_small_standings_of_a_shape(self):
        chance = random.Random(33)
        for number, table in enumerate(MADE):
            for many in (1, 2, 3):
                within = made_shape(chance, many)
                with self.subTest(table=number, within=within):
                    self.check_both_ways(table, within, standings_in(within, most=3 if many < 3 else 2), many < 3)

    def check_both_ways(self, table, within, standings, all_made):
        for order in (True, False):
            found = after(table, within, order)
            made = {each: False for each in found}
            for standing in standings:
                for deed in model_may(table, standing, order):
                    word, told = word_of(standing, deed), model_step(table, standing, deed)
                    self.assertTrue(is_told(found, word, told), (standing, deed))
                    for each in found:
                        made[each] = made[each] or each[0] == word and is_told([each], word, told)
            # A shape that clashes lies behind a deed that breaks, so no step needs to come to it.
            left = [each for each in made if not made[each] and not (each[2] and may_clash(table, each[2]))]
            self.assertEqual(left if all_made else [], [])


class Runs(unittest.TestCase):
    def check_run(self, table, many, seed, length):
        """Deed by deed, from the start's shape on, always a shape told in which the standing lies."""
        chance = random.Random(seed)
        standing, within = start(table, many), start_shape(table)
        for _ in range(length):
            deeds = may(table, standing, False)
            if not deeds:
                return
            deed = chance.choice(deeds)
            word = word_of(standing, deed)
            told = step(table, standing, deed)
            found = after(table, within, False)
            self.assertTrue(is_told(found, word, told))
            if told[2] is None:
                standing = told[0]
                within = chance.choice([each[2] for each in found
                                        if each[:2] == (word, "") and lies_in(standing, each[2])])

    def test_from_the_starts_shape_on(self):
        for number, table in enumerate(MADE + [EXAMPLE, SHARING]):
            for many in (1, 2, 4):
                with self.subTest(table=number, many=many):
                    self.check_run(table, many, number, 20)

    def test_by_order(self):
        for many in (1, 2, 3, 5):
            for seed in range(6):
                chance = random.Random(seed)
                standing, within = start(SHARING, many), start_shape(SHARING)
                for _ in range(30):
                    deed = chance.choice(may(SHARING, standing))
                    word = word_of(standing, deed)
                    told = step(SHARING, standing, deed)
                    found = after(SHARING, within)
                    self.assertTrue(is_told(found, word, told))
                    if told[2] is None:
                        standing = told[0]
                        within = next(each[2] for each in found
                                      if each[:2] == (word, "") and lies_in(standing, each[2]))

    def test_answers_are_those_of_a_plain_store(self):
        changing = 0
        for number, table in enumerate(MADE + [EXAMPLE, SHARING]):
            for many in (1, 2, 3):
                with self.subTest(table=number, many=many):
                    deeds = unbroken_run(table, many, number, 100)
                    standing, answers, broken = play(table, many, deeds)
                    self.assertIsNone(broken)
                    self.assertIs(plain(answers), True)
                    self.assertIsNone(first_wrong(answers))
                    changing += len({answer[2] for answer in answers if answer[0] == "read"}) > 1
        # A run in which all reads tell one number says little.
        self.assertGreater(changing, 10)

    def test_answers_of_many_hands(self):
        for many in (2, 5, 20):
            for seed in range(4):
                deeds = unbroken_run(SHARING, many, seed, 150)
                standing, answers, broken = play(SHARING, many, deeds)
                self.assertIsNone(broken)
                self.assertIs(plain(answers), True)
                self.assertEqual({answer[0] for answer in answers}, {"read", "wrote"})

    def test_answers_ahead_of_a_break(self):
        broke = 0
        for number, table in enumerate(MADE):
            deeds = [deed for standing, deed in walked(table, 2, number)]
            standing, answers, broken = play(table, 2, deeds)
            self.assertIs(plain(answers), True)
            broke += bool(broken and answers)
        self.assertGreater(broke, 5)


def unbroken_run(table, many, seed, length):
    """Deeds of which none breaks, as many as told, or until each that may be done would."""
    chance = random.Random(seed)
    standing, done = start(table, many), []
    while len(done) < length:
        deeds = [with_numbers(chance, deed) for deed in may(table, standing, False)]
        good = [deed for deed in deeds if step(table, standing, deed)[2] is None]
        if not good:
            break
        done.append(chance.choice(good))
        standing = step(table, standing, done[-1])[0]
    return done


if __name__ == "__main__":
    unittest.main()

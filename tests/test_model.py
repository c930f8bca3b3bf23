"""The package's steps beside those of a second doer of deeds, over walks through many tables."""

import random
import unittest

from copyclerk.errors import NoDeed
from copyclerk.standings import clash, start
from copyclerk.steps import may, play, step, stuck
from copyclerk.tabletext import read_table, table_text
from tests.model import all_deeds, clashes, model_may, model_step, model_stuck, opened
from tests.samples import EXAMPLE, SHARING_TEXT
from tests.walks import made_standing, made_table, walked

SHARING = read_table(SHARING_TEXT)
MADE = [made_table(seed) for seed in range(60)]


def told_by_step(table, standing, deed):
    try:
        return step(table, standing, deed)
    except NoDeed:
        return None


class BesideTheModel(unittest.TestCase):
    def check_all(self, table, standing):
        for order in (True, False):
            self.assertEqual(may(table, standing, order), model_may(table, standing, order))
            self.assertIs(stuck(table, standing, order), model_stuck(table, standing, order))
        for deed in all_deeds(len(standing[3]) + 1, letters=3):
            self.assertEqual(told_by_step(table, standing, deed), model_step(table, standing, deed), deed)
        self.assertIs(clash(table, standing), clashes(table, opened(standing)))

    def test_made_tables_are_tables(self):
        for table in MADE:
            self.assertEqual(read_table(table_text(table)), table)

    def test_each_thing_that_can_come_does_come(self):
        seen = set()
        for table in MADE + [SHARING]:
            for standing, deed in walked(table, 3, 0):
                behind, answer, broken = step(table, standing, deed)
                seen.add((deed[0], answer and answer[0], broken and broken[0]))
        for word in ("ask", "take"):
            for came in ((None, None), ("read", None), ("wrote", None), (None, "full"), (None, "old"),
                         (None, "clash")):
                self.assertIn((word,) + came, seen)
        for came in (("take", None, "norow"), ("get", None, "norow"), ("get", None, "full"), ("get", None, None)):
            self.assertIn(came, seen)

    def check_walk(self, table, many, seed, length=40):
        seen = {}
        for standing, deed in walked(table, many, seed, length):
            self.assertEqual(step(table, standing, deed), model_step(table, standing, deed))
            if standing not in seen:
                self.check_all(table, standing)
                seen[standing] = True

    def test_walks_through_made_tables(self):
        for number, table in enumerate(MADE):
            for many in (1, 2, 3):
                with self.subTest(table=number, many=many):
                    self.check_walk(table, many, number)

    def test_walks_through_told_tables(self):
        for table in (EXAMPLE, SHARING):
            for many in (0, 1, 2, 3, 5):
                for seed in range(4):
                    self.check_walk(table, many, seed, length=80)

    def test_standings_that_perhaps_no_run_comes_to(self):
        chance = random.Random(0)
        for number, table in enumerate(MADE):
            for many in (0, 1, 2, 3, 4):
                for _ in range(3):
                    with self.subTest(table=number):
                        self.check_all(table, made_standing(chance, many, ahead=2))

    def test_played_walks(self):
        for table in MADE + [EXAMPLE, SHARING]:
            for many in (1, 3):
                deeds = [deed for standing, deed in walked(table, many, 1, length=100)]
                self.assertEqual(play(table, many, deeds), model_play(table, many, deeds))


def model_play(table, many, deeds):
    standing, answers = start(table, many), []
    for deed in deeds:
        standing, answer, broken = model_step(table, standing, deed)
        if broken:
            return (standing, answers, broken)
        answers += [answer] if answer else []
    return (standing, answers, None)


if __name__ == "__main__":
    unittest.main()

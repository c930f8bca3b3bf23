"""The whole: where a table lets a paper by, all runs go right, and where a run goes wrong, no paper is let by."""

import copy
import os
import random
import subprocess
import sys
import unittest

from copyclerk.after import after
from copyclerk.desk import Desk
from copyclerk.finder import find_paper, find_run
from copyclerk.papers import checked
from copyclerk.papertext import deeds_text, paper_text, read_deeds, read_paper, shape_text
from copyclerk.shapes import is_within, lies_in, may_be_stuck, may_clash, shape_of, start_shape
from copyclerk.standings import clash, renamed, start
from copyclerk.steps import may, play, step, stuck
from copyclerk.store import plain
from copyclerk.tabletext import read_table, table_text
from tests.goodtables import BY_ANY, BY_ORDER, CALLING, KNOWING, LOOKING, MINDING, changed_once, good_ones, is_table
from tests.model import model_step
from tests.papermodel import model_loosened
from tests.samples import EXAMPLE, SHARING_TEXT
from tests.shapemodel import model_lies_in
from tests.walks import made_table, wider, with_numbers

SHARING = read_table(SHARING_TEXT)
# Tables of all sorts with an order each: some good, most not.
CHANGED = [(changed, order)
           for table in BY_ORDER + BY_ANY for order in ((True, False) if table in BY_ANY else (True,))
           for place, changed in enumerate(changed_once(table)) if place % (6 if len(table[2]) > 20 else 2) == 0]
FREE = [(made_table(seed), seed % 2 == 0) for seed in range(1000, 1400)]


def run_through(table, many, order, seed, length):
    """Deeds chosen by a seed, each with the standing ahead of it and what the step tells."""
    chance = random.Random(seed)
    standing = start(table, many)
    for _ in range(length):
        deeds = may(table, standing, order)
        if not deeds:
            return
        # Letters come a little sooner, so that not all hands only ask.
        letters = [deed for deed in deeds if deed[0] != "ask"]
        deed = with_numbers(chance, chance.choice(letters if letters and chance.random() < 0.4 else deeds))
        told = step(table, standing, deed)
        yield standing, deed, told
        if told[2] is not None:
            return
        standing = told[0]


class WholeCase(unittest.TestCase):
    def check_right(self, table, paper, order, many, seed, length):
        """All that a paper promises of one run."""
        self.check_standing(table, paper, order, start(table, many))
        deeds, answers = [], []
        for standing, deed, told in run_through(table, many, order, seed, length):
            self.assertIsNone(told[2], (standing, deed))
            self.assertEqual(told, model_step(table, standing, deed))
            self.check_standing(table, paper, order, told[0])
            deeds.append(deed)
            answers += [told[1]] if told[1] else []
        self.assertIs(plain(answers), True)
        self.assertEqual(play(table, many, deeds)[1:], (answers, None))
        return answers

    def check_standing(self, table, paper, order, standing):
        self.assertFalse(clash(table, standing))
        self.assertFalse(stuck(table, standing, order))
        self.assertTrue(any(lies_in(standing, shape) for shape in paper), standing)
        self.assertTrue(any(model_lies_in(standing, shape) for shape in paper), standing)


class GoodTables(WholeCase):
    def test_runs_of_one_to_several_hands(self):
        for number, (table, order) in enumerate(good_ones()):
            word, paper = find_paper(table, order)
            self.assertEqual((word, checked(table, paper, order)), ("paper", None))
            for many in (1, 2, 3, 5, 9):
                with self.subTest(table=number, many=many):
                    self.check_right(table, paper, order, many, number, 60)

    def test_twenty_hands_and_two_hundred_deeds(self):
        for table, order in ((CALLING, True), (MINDING, False)):
            answers = self.check_right(table, find_paper(table, order)[1], order, 20, 7, 200)
            self.assertIn("wrote", {answer[0] for answer in answers})

    def test_reads_tell_many_numbers(self):
        seen = set()
        for seed in range(6):
            answers = self.check_right(LOOKING, find_paper(LOOKING)[1], True, 3, seed, 150)
            seen |= {answer[2] for answer in answers if answer[0] == "read"}
        self.assertGreater(len(seen), 3)

    def test_hands_renamed(self):
        chance = random.Random(3)
        for table, order in good_ones():
            paper = find_paper(table, order)[1]
            deeds = [deed for standing, deed, told in run_through(table, 4, order, 5, 40)]
            names = [0, 1, 2, 3]
            chance.shuffle(names)
            behind, answers, broken = play(table, 4, deeds)
            others = [deed[:1] + (names.index(deed[1]),) + deed[2:] for deed in deeds]
            told = play(table, 4, others)
            self.assertEqual(told, (renamed(behind, names), [(word, names.index(hand), number)
                                                             for word, hand, number in answers], None))
            self.assertTrue(any(lies_in(told[0], shape) for shape in paper))

    def test_a_paper_written_by_somebody_else(self):
        """Wider shapes, and shapes found without loosening, as long as they are let by."""
        chance = random.Random(4)
        let_by = 0
        for number, (table, order) in enumerate(good_ones()):
            for paper in (closed(table, [start_shape(table)], order), own_paper(chance, table, order)):
                if checked(table, paper, order) is None:
                    let_by += 1
                    for many in (1, 2, 4):
                        self.check_right(table, paper, order, many, number, 25)
        self.assertGreater(let_by, 10)


def closed(table, paper, order, most=60):
    """The paper with what lacks put into it, one by one, until nothing lacks or it grows too long."""
    told = list(paper)
    fault = checked(table, told, order)
    while fault is not None and fault[0] == "lacks" and len(told) < most:
        told.append(fault[3])
        fault = checked(table, told, order)
    return told


def own_paper(chance, table, order):
    """A paper that was found, in another order, with shapes in it twice and others that no run comes to."""
    found = find_paper(table, order, 60)
    paper = found[1] if found[0] == "paper" else []
    paper = paper + chance.choices(paper, k=2) if paper else paper
    chance.shuffle(paper)
    stranger = (table[1][0], "none", ((("gone", "old", (), (), 3), "any"),))
    return [stranger] + paper


class AllTables(WholeCase):
    """Tables changed once and free ones: a paper, a run that goes wrong, or neither, but never both."""

    def check_table(self, table, order):
        found = find_paper(table, order, 120)
        runs = [find_run(table, many, order, 250) for many in (1, 2, 3)]
        if found[0] == "paper":
            self.assertIsNone(checked(table, found[1], order))
            self.assertNotIn("run", [run[0] for run in runs])
            for many in (1, 2, 4):
                self.check_right(table, found[1], order, many, many, 25)
        for many, run in enumerate(runs, start=1):
            if run[0] == "run":
                self.check_no_paper(table, order, many, run)
        return (found[0], "run" if "run" in [run[0] for run in runs] else "none")

    def check_no_paper(self, table, order, many, run):
        word, deeds, broken = run
        self.assertNotEqual(find_paper(table, order, 120)[0], "paper")
        standings = [play(table, many, deeds[:number])[0] for number in range(len(deeds) + 1)]
        shapes = [shape_of(standing) for standing in standings]
        chance = random.Random(len(deeds))
        first = start_shape(table)
        wide = [wider(chance, shape, chance.randrange(2)) for shape in shapes]
        for paper in ([first] + shapes, [first] + wide, [model_loosened(shape) for shape in [first] + shapes]):
            self.assertIsNotNone(checked(table, paper, order))
            self.assertIsNotNone(checked(table, closed(table, paper, order, len(paper) + 10), order))

    def test_tables_changed_once(self):
        seen = {}
        for number, (table, order) in enumerate(CHANGED):
            with self.subTest(table=number):
                self.assertTrue(is_table(table))
                told = self.check_table(table, order)
                seen[told] = seen.get(told, 0) + 1
        # Each that may come does come, often enough to say something.
        self.assertLessEqual({("paper", "none"), ("fault", "run"), ("gave up", "none")}, set(seen))
        self.assertGreater(min(seen[("paper", "none")], seen[("fault", "run")]), 20)

    def test_tables_changed_twice_or_thrice(self):
        seen = {}
        for seed in range(300):
            chance = random.Random(seed)
            table, order = chance.choice(good_ones())
            for _ in range(chance.choice((2, 3))):
                table = chance.choice(list(changed_once(table)) or [table])
            with self.subTest(seed=seed):
                self.assertTrue(is_table(table))
                told = self.check_table(table, order)
                seen[told] = seen.get(told, 0) + 1
        self.assertGreater(min(seen[("paper", "none")], seen[("fault", "run")]), 50)

    def test_free_tables(self):
        seen = {}
        for number, (table, order) in enumerate(FREE):
            with self.subTest(table=number):
                told = self.check_table(table, order)
                seen[told] = seen.get(told, 0) + 1
        self.assertGreater(seen[("paper", "none")], 3)
        self.assertGreater(seen[("fault", "run")], 100)
        self.assertNotIn(("paper", "run"), seen)

    def test_tables_that_are_told(self):
        for table in (EXAMPLE, SHARING):
            for order in (True, False):
                self.assertEqual(self.check_table(table, order), ("fault", "run"))

    def test_walks_that_break_or_are_stuck(self):
        """A run by chance that goes wrong is enough: no paper is let by, found or not."""
        wrong = 0
        for number, (table, order) in enumerate(CHANGED[::3] + FREE[::5]):
            for many in (2, 4):
                run = list(run_through(table, many, order, number, 40))
                broken = bool(run) and run[-1][2][2] is not None
                standings = [standing for standing, deed, told in run]
                if broken or any(stuck(table, standing, order) for standing in standings):
                    wrong += 1
                    self.assertNotEqual(find_paper(table, order, 60)[0], "paper")
                    shapes = [start_shape(table)] + [shape_of(standing) for standing in standings]
                    self.assertIsNotNone(checked(table, shapes, order))
        self.assertGreater(wrong, 50)


class FromTextToText(WholeCase):
    """From the text of a table to the answers of a desk, and back."""

    def test_papers(self):
        for table, order in good_ones():
            desk = Desk()
            self.assertEqual(desk.say("table\n" + table_text(table)), "ok")
            self.assertEqual(desk.say("order yes" if order else "order no"), "ok")
            text = desk.say("paper 400").partition("\n")[2]
            paper = read_paper(text)
            self.assertEqual((paper_text(paper), ("paper", paper)), (text, find_paper(table, order)))
            self.assertIsNone(checked(read_table(table_text(table)), paper, order))
            self.assertEqual(desk.say("check\n" + text), "good")

    def test_runs(self):
        for table, order in good_ones():
            desk = Desk()
            desk.say("table\n" + table_text(table))
            desk.say("hands 5")
            desk.say("order yes" if order else "order no")
            paper = read_paper(desk.say("paper 400").partition("\n")[2])
            deeds = [deed for standing, deed, told in run_through(table, 5, order, 9, 40)]
            told = [desk.say(row) for row in deeds_text(deeds).split("\n")] if deeds else []
            standing, answers, broken = play(table, 5, deeds)
            words = [" ".join(map(str, answer)) for answer in answers]
            self.assertEqual([row for row in told if row != "done"], words)
            self.assertEqual(desk.say("answers"), ", ".join(words) or "-")
            self.assertEqual((desk.say("plain"), desk.say("stuck")), ("yes", "no"))
            self.assertTrue(any(is_within(read_paper(desk.say("shape"))[0], shape) for shape in paper))
            self.assertEqual(read_deeds(deeds_text(deeds)), deeds)

    def test_tables_that_go_wrong(self):
        for table, order in CHANGED[::7]:
            desk = Desk()
            desk.say("table\n" + table_text(table))
            desk.say("order yes" if order else "order no")
            told = desk.say("run 2 200").split("\n")
            if told[0].startswith("run "):
                self.assertFalse(desk.say("paper 50").startswith("paper"))
                self.assertNotEqual(desk.say("check\n" + shape_text(start_shape(table))), "good")
                desk.say("hands 2")
                answers = [desk.say(row) for row in told[1:]]
                if told[0] == "run stuck":
                    self.assertEqual(desk.say("stuck"), "yes")
                else:
                    self.assertEqual(answers[-1], "broken " + told[0][4:])


class NothingIsChanged(unittest.TestCase):
    def test_what_is_handed_in_stays(self):
        paper = find_paper(KNOWING)[1]
        lists = [paper, [("ask", 0, "write", 4), ("get", 0, 0), ("take", 0, 0)]]
        kept = copy.deepcopy((KNOWING, lists))
        for order in (True, False):
            checked(KNOWING, lists[0], order)
            find_paper(KNOWING, order)
            find_run(KNOWING, 2, order)
            for shape in lists[0]:
                after(KNOWING, shape, order)
                may_clash(KNOWING, shape)
                may_be_stuck(KNOWING, shape, order)
                shape_text(shape)
        paper_text(lists[0])
        deeds_text(lists[1])
        play(KNOWING, 2, lists[1])
        self.assertEqual((KNOWING, lists), kept)

    def test_lists_told_and_handed_in_may_be_changed(self):
        paper = find_paper(KNOWING)[1]
        text = paper_text(paper)
        self.assertIsNone(checked(KNOWING, paper))
        again = list(paper)
        paper.clear()
        self.assertEqual(checked(KNOWING, paper)[0], "start")
        self.assertIsNone(checked(KNOWING, again))
        told = after(KNOWING, again[0])
        kept = list(told)
        told.clear()
        self.assertEqual(after(KNOWING, again[0]), kept)
        read_paper(text).clear()
        self.assertEqual(read_paper(text), again)
        found = find_paper(KNOWING)[1]
        found.clear()
        self.assertEqual(find_paper(KNOWING), ("paper", again))

    def test_nothing_hangs_on_how_texts_are_hashed(self):
        script = ("from tests.goodtables import LOOKING\nfrom tests.samples import EXAMPLE\n"
                  "from copyclerk.finder import find_paper, find_run\n"
                  "print(find_paper(LOOKING, True, 300), find_run(EXAMPLE, 2), find_run(LOOKING, 2))")
        root = os.path.dirname(os.path.dirname(os.path.abspath(__file__)))
        told = [subprocess.run([sys.executable, "-c", script], cwd=root, check=True, capture_output=True,
                               env=dict(os.environ, PYTHONHASHSEED=seed, PYTHONPATH=root)).stdout
                for seed in ("0", "1", "77")]
        self.assertEqual(told, [told[0]] * 3)
        self.assertIn(b"paper", told[0])


if __name__ == "__main__":
    unittest.main()

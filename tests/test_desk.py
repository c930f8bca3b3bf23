"""The desk: what it answers to each row."""

import random
import unittest

from copyclerk.desk import Desk
from copyclerk.finder import find_paper
from copyclerk.papertext import deeds_text, paper_text, read_deeds, read_paper, shape_text
from copyclerk.steps import play
from copyclerk.shapes import shape_of
from copyclerk.tabletext import table_text
from tests.builders import HEAD
from tests.deskcase import PROBES, DeskCase
from tests.goodtables import (BRINGING_TEXT, CALLING, CALLING_TEXT, EMPTY_TEXT, KNOWING, KNOWING_TEXT, LOOKING_TEXT,
                              ROUNDS_TEXT)
from tests.samples import EXAMPLE_TEXT
from tests.walks import made_table, walked

FORTY = "9" * 40


def told_table(*rows):
    return "\n".join(("table",) + HEAD + rows)


class Beginnings(DeskCase):
    def test_a_table(self):
        self.check(("table\n" + EXAMPLE_TEXT, "ok"), ("shape", "home last: idle none - - - one"),
                   ("may", "ask 0 write 0"), ("answers", "-"), ("plain", "yes"), ("stuck", "no"))

    def test_a_table_without_rows(self):
        self.check(("table\n" + EMPTY_TEXT, "ok"), ("may", "-"), ("shape", "home last: idle none - - - one"))

    def test_hands(self):
        self.check(("table\n" + EXAMPLE_TEXT, "ok"))
        for many in range(1, 9):
            asks = ", ".join(f"ask {hand} write 0" for hand in range(many))
            count = "one" if many == 1 else "some"
            self.check((f"hands {many}", "ok"), ("may", asks), ("shape", f"home last: idle none - - - {count}"))

    def test_hands_begin_anew(self):
        self.check((told_table("hand idle write -> look: put"), "ok"), ("ask 0 write 3", "wrote 0 3"),
                   ("answers", "wrote 0 3"), ("hands 1", "ok"), ("answers", "-"), ("plain", "yes"),
                   ("shape", "home last: idle none - - - one"), ("may", "ask 0 write 0"))

    def test_a_second_table(self):
        self.check(("table\n" + LOOKING_TEXT, "ok"), ("hands 3", "ok"), ("order no", "ok"), ("ask 2 read", "done"),
                   ("get 2 0", "done"), ("take 2 0", "read 2 0"), ("table\n" + EXAMPLE_TEXT, "ok"), ("answers", "-"),
                   ("shape", "home last: idle none - - - one"), ("may", "ask 0 write 0"),
                   ("ask 1 write 0", ("NoDeed",)))

    def test_the_same_table_again(self):
        self.check(("table\n" + EXAMPLE_TEXT, "ok"), ("ask 0 write 7", "done"), ("table\n" + EXAMPLE_TEXT, "ok"),
                   ("may", "ask 0 write 0"))

    def test_ways_keep_order_behind_a_table(self):
        rows = ("hand idle read -> idle: send x bare, send y bare", "house home x any -> home",
                "house home y any -> out")
        # The second time the desk was told ahead of the table that they keep none.
        for number in range(2):
            self.check((told_table(*rows), "ok"), ("ask 0 read", "done"), ("may", "ask 0 read, get 0 0"),
                       ("get 0 1", ("NoDeed",)), ("order no", "ok"), ("may", "ask 0 read, get 0 0, get 0 1"),
                       ("get 0 1", "done"))

    def test_hands_leave_the_order(self):
        rows = ("hand idle read -> idle: send x bare, send y bare",)
        self.check((told_table(*rows), "ok"), ("order no", "ok"), ("hands 2", "ok"), ("ask 1 read", "done"),
                   ("may", "ask 0 read, ask 1 read, get 1 0, get 1 1"), ("order yes", "ok"),
                   ("may", "ask 0 read, ask 1 read, get 1 0"), ("hands 1", "ok"), ("ask 0 read", "done"),
                   ("may", "ask 0 read, get 0 0"))

    def test_order_changes_nothing_else(self):
        self.check(("table\n" + CALLING_TEXT, "ok"), ("hands 2", "ok"), ("ask 0 write 4", "done"), ("get 0 0", "done"),
                   ("take 0 0", "wrote 0 4"))
        ahead = [self.say(row) for row in PROBES]
        for row in ("order no", "order no", "order yes", "order yes"):
            self.check((row, "ok"))
            self.assertEqual([self.say(row) for row in PROBES], ahead)


class Deeds(DeskCase):
    def test_each_answer(self):
        self.check((told_table("hand idle write -> look: put", "hand look read -> look: tell",
                               "hand look drop -> idle: lose", "hand idle read -> idle: tell"), "ok"),
                   ("ask 0 write 5", "wrote 0 5"), ("ask 0 read", "read 0 5"), ("ask 0 drop", "done"),
                   ("ask 0 read", "broken old"), ("ask 0 write -7", "wrote 0 -7"), ("ask 0 read", "read 0 -7"),
                   ("answers", "wrote 0 5, read 0 5, wrote 0 -7, read 0 -7"), ("plain", "yes"))

    def test_each_break(self):
        self.check((told_table("hand idle read -> idle: tell", "hand idle drop -> idle: send x bare",
                               "hand idle write -> mine: put"), "ok"), ("hands 2", "ok"), ("ask 0 read", "broken old"),
                   ("ask 1 drop", "done"), ("ask 1 drop", "done"), ("ask 1 drop", "broken full"),
                   ("get 1 0", "broken norow"), ("ask 0 write 2", "wrote 0 2"), ("ask 1 write 3", "broken clash"),
                   ("answers", "wrote 0 2"))

    def test_a_break_leaves_the_standing(self):
        self.check((told_table("hand idle write -> idle: put, send x bare", "hand idle read -> idle: tell"), "ok"),
                   ("ask 0 read", "broken old"), ("shape", "home last: idle none - - - one"), ("answers", "-"),
                   ("ask 0 write 1", "wrote 0 1"), ("ask 0 write 2", "wrote 0 2"))
        ahead = [self.say(row) for row in PROBES]
        self.check(("ask 0 write 3", "broken full"), ("ask 0 read", "read 0 2"))
        self.assertEqual([self.say(row) for row in ("may", "stuck", "shape", "plain")],
                         [told for row, told in zip(PROBES, ahead) if row != "answers"])

    def test_a_want_behind_a_break(self):
        # The ask that broke left no want behind.
        self.check((told_table("hand idle write -> wait: tell", "hand idle drop -> idle: put"), "ok"),
                   ("ask 0 write 8", "broken old"), ("ask 0 drop", "wrote 0 0"))

    def test_numbers_of_forty_figures(self):
        self.check((told_table("hand idle write -> idle: put", "hand idle read -> idle: tell"), "ok"),
                   (f"ask 0 write {FORTY}", f"wrote 0 {FORTY}"), ("ask 0 read", f"read 0 {FORTY}"),
                   (f"ask 0 write -{FORTY}", f"wrote 0 -{FORTY}"), ("ask 0 read", f"read 0 -{FORTY}"),
                   (f"ask 0 write {FORTY}0", ("NoRow",)), (f"ask 0 write -{FORTY}0", ("NoRow",)),
                   ("answers", f"wrote 0 {FORTY}, read 0 {FORTY}, wrote 0 -{FORTY}, read 0 -{FORTY}"))

    def test_each_hand(self):
        self.check((told_table("hand idle write -> idle: put"), "ok"), ("hands 8", "ok"))
        for hand in range(8):
            self.check((f"ask {hand} write {hand}", f"wrote {hand} {hand}"))
        self.check(("ask 8 write 1", ("NoDeed",)), ("ask 99 write 1", ("NoDeed",)), ("ask 100 write 1", ("NoRow",)))

    def test_by_the_order_kept(self):
        rows = ("hand idle read -> wait: send x bare, send y bare",
                "house home x any -> home: send a bare, send b bare",
                "house home y any -> home", "hand wait a -> wait", "hand wait b -> wait")
        for number in ("1", "2", "9", "10", "99"):
            self.check((told_table(*rows), "ok"), ("ask 0 read", "done"), (f"get 0 {number}", ("NoDeed",)),
                       ("get 0 0", "done"), (f"take 0 {number}", ("NoDeed",)), ("take 0 0", "done"),
                       ("take 0 0", "done"), ("take 0 0", ("NoDeed",)), ("get 0 0", "done"))
        self.check((told_table(*rows), "ok"), ("ask 0 read", "done"), ("order no", "ok"), ("get 0 2", ("NoDeed",)),
                   ("get 0 1", "done"), ("get 0 1", ("NoDeed",)), ("get 0 0", "done"), ("take 0 1", "done"),
                   ("order yes", "ok"), ("take 0 0", "done"), ("shape", "home last: wait none - - - one"))

    def test_letters_that_wait(self):
        self.check(("table\n" + CALLING_TEXT, "ok"), ("hands 3", "ok"))
        for hand in range(3):
            self.check((f"ask {hand} write {hand}", "done"))
        self.check(("get 2 0", "done"), ("get 1 0", "done"), ("get 1 0", ("NoDeed",)), ("get 0 0", ("NoDeed",)),
                   ("take 2 0", "wrote 2 2"), ("take 2 0", "done"), ("may", "ask 2 write 0, get 2 0"),
                   ("get 2 0", "done"), ("get 1 0", "done"))

    def test_deeds_that_may_not_be_done(self):
        self.check(("table\n" + EXAMPLE_TEXT, "ok"), ("ask 0 read", ("NoDeed",)), ("ask 0 drop", ("NoDeed",)),
                   ("take 0 0", ("NoDeed",)), ("get 0 0", ("NoDeed",)), ("ask 1 write 0", ("NoDeed",)),
                   ("ask 0 write 4", "done"), ("ask 0 write 4", ("NoDeed",)), ("get 0 0", "done"))


class Questions(DeskCase):
    def test_may(self):
        self.check((told_table("hand idle read -> idle", "hand idle drop -> idle: send x bare",
                               "hand idle write -> idle"), "ok"),
                   ("may", "ask 0 read, ask 0 write 0, ask 0 drop"), ("ask 0 drop", "done"),
                   ("may", "ask 0 read, ask 0 write 0, ask 0 drop, get 0 0"), (told_table(), "ok"), ("may", "-"),
                   ("hands 8", "ok"), ("may", "-"))

    def test_stuck(self):
        rows = ("hand idle read -> idle: send x bare, send y bare", "house home x any -> home: wait",
                "house home y any -> home")
        self.check((told_table(*rows), "ok"), ("stuck", "no"), ("ask 0 read", "done"), ("stuck", "yes"),
                   ("order no", "ok"), ("stuck", "no"), ("get 0 1", "done"), ("stuck", "yes"), ("order yes", "ok"),
                   ("stuck", "yes"), ("hands 1", "ok"), ("stuck", "no"))

    def test_shape(self):
        self.check(("table\n" + CALLING_TEXT, "ok"), ("hands 4", "ok"), ("ask 1 write 3", "done"),
                   ("ask 2 write 3", "done"), ("get 1 0", "done"), ("get 2 0", "done"), ("take 1 0", "wrote 1 3"),
                   ("shape", "busy old: idle none - - - some; mine last call.bare - o one; wait none - get.bare - one"),
                   ("take 1 0", "done"), ("ask 1 write 5", "done"),
                   ("shape", "busy old: idle none - - - some; wait none - back.last+get.bare o one; "
                             "wait none - get.bare - one"))

    def test_shape_with_each_flag(self):
        rows = ("hand idle read -> idle: send x bare", "hand idle drop -> idle: send y bare",
                "house home x any -> home: share", "house home y any -> home: own")
        self.check((told_table(*rows), "ok"), ("hands 4", "ok"))
        for hand, asks in ((1, ("read",)), (2, ("drop",)), (3, ("read", "drop"))):
            for ask in asks:
                self.check((f"ask {hand} {ask}", "done"), (f"get {hand} 0", "done"))
        self.check(("shape", "home last: idle none - - - one; idle none - - s one; idle none - - o one; "
                             "idle none - - so one"))

    def test_answers(self):
        self.check((told_table("hand idle write -> idle: put", "hand idle read -> idle: tell"), "ok"),
                   ("hands 2", "ok"), ("answers", "-"), ("ask 1 write 0", "wrote 1 0"), ("answers", "wrote 1 0"),
                   ("ask 1 read", "read 1 0"), ("ask 0 read", "broken old"), ("answers", "wrote 1 0, read 1 0"),
                   ("plain", "yes"), ("answers", "wrote 1 0, read 1 0"))

    def test_questions_change_nothing(self):
        self.check(("table\n" + LOOKING_TEXT, "ok"), ("hands 2", "ok"), ("ask 0 read", "done"))
        ahead = [self.say(row) for row in PROBES]
        for row in PROBES + ("paper 20", "run 2 30", "check\n", "check\nhome last: idle none - - - any"):
            self.say(row)
            self.assertEqual([self.say(probe) for probe in PROBES], ahead)


class Checks(DeskCase):
    def check_paper(self, table, paper, wanted):
        self.check(("table\n" + table, "ok"), ("check\n" + paper, wanted))

    def test_good(self):
        self.check_paper(EMPTY_TEXT, "home last: idle none - - - any", "good")
        self.check_paper(EMPTY_TEXT, "home last: idle none - - - some\nhome last\nhome last", "good")
        self.check_paper(CALLING_TEXT, paper_text(find_paper(CALLING)[1]), "good")

    def test_start(self):
        self.check_paper(EMPTY_TEXT, "", "start / home last: idle none - - - some")
        self.check_paper(EMPTY_TEXT, "home last", "start / home last: idle none - - - some")

    def test_clash(self):
        self.check_paper(EXAMPLE_TEXT, "home last: idle none - - - any; mine old - - - any",
                         "clash / home last: idle none - - - any; mine old - - - any")

    def test_stuck(self):
        self.check_paper(EXAMPLE_TEXT, "home last: idle none - - - any\nout none: wait none - get.bare - one",
                         "lacks / home last: idle none - - - any / ask write by idle none - - - / "
                         "home last: idle none - - - any; wait none - get.bare - one")
        self.check_paper(EXAMPLE_TEXT, "out none: wait none - get.bare - one\nhome last: idle none - - - any",
                         "stuck / out none: wait none - get.bare - one")

    def test_break(self):
        table = "\n".join(HEAD + ("hand look read -> look: tell",))
        for ahead in ("", "home last\n"):
            self.check_paper(table, f"{ahead}home last: idle none - - - any; look old - - s any",
                             "break / home last: idle none - - - any; look old - - s any / "
                             "ask read by look old - - s / old")
        self.check_paper(table, "home last: idle none - - - any\nout old: idle none a.bare+b.old - - one",
                         "break / out old: idle none a.bare+b.old - - one / "
                         "take 0 by idle none a.bare+b.old - - / norow")
        self.check_paper(table, "home last: idle none - - - any\nout old: idle none - a.bare so one",
                         "break / out old: idle none - a.bare so one / get 0 by idle none - a.bare so / norow")

    def test_break_by_full_and_clash(self):
        table = "\n".join(HEAD + ("hand wait drop -> wait: send x bare", "hand look write -> mine",
                                  "house home x any -> home"))
        self.check_paper(table, "home last: idle none - - - any\nhome none: wait none - x.old+x.old - one",
                         "break / home none: wait none - x.old+x.old - one / "
                         "ask drop by wait none - x.old+x.old - / full")
        self.check_paper(table, "home last: idle none - - - any\nhome none: look none - - - some\n"
                                "home none: look none - - - any; mine none - - - one",
                         "break / home none: look none - - - some / ask write by look none - - - / clash")

    def test_lacks(self):
        table = "\n".join(HEAD + ("hand idle drop -> look",))
        self.check_paper(table, "home last: idle none - - - any",
                         "lacks / home last: idle none - - - any / ask drop by idle none - - - / "
                         "home last: idle none - - - any; look none - - - one")

    def test_lacks_behind_a_letter(self):
        table = "\n".join(HEAD + ("hand idle x -> look: keep", "house home y any -> out: keep, own"))
        self.check_paper(table, "home last: idle none - - - any\nhome last: idle none x.old - - one",
                         "lacks / home last: idle none x.old - - one / take 0 by idle none x.old - - / "
                         "home last: look old - - - one")
        self.check_paper(table, "home last: idle none - - - any\nhome last: idle none - y.bare - one",
                         "lacks / home last: idle none - y.bare - one / get 0 by idle none - y.bare - / "
                         "out none: idle none - - o one")

    def test_a_shape_without_lines_lies_behind_none(self):
        self.check_paper(EXAMPLE_TEXT, "home last: idle none - - - any\nhome old",
                         "lacks / home last: idle none - - - any / ask write by idle none - - - / "
                         "home last: idle none - - - any; wait none - get.bare - one")

    def test_by_the_order_kept(self):
        paper = paper_text(find_paper(CALLING)[1])
        self.check(("table\n" + CALLING_TEXT, "ok"), ("check\n" + paper, "good"), ("order no", "ok"))
        told = self.say("check\n" + paper)
        self.assertTrue(told.startswith("break / busy last: "), told)
        self.assertTrue(told.endswith(" / take 1 by wait none give.last+call.bare - o / norow"), told)
        self.check(("order yes", "ok"), ("check\n" + paper, "good"))

    def test_the_standing_does_not_matter(self):
        paper = paper_text(find_paper(KNOWING)[1])
        self.check(("table\n" + KNOWING_TEXT, "ok"), ("hands 5", "ok"), ("ask 4 write 3", "done"), ("get 4 0", "done"),
                   ("check\n" + paper, "good"), ("check\n", "start / home last: idle none - - - some"))


class Finders(DeskCase):
    def test_a_paper(self):
        self.check(("table\n" + EMPTY_TEXT, "ok"), ("paper 1", "paper\nhome last: idle none - - - any"),
                   ("paper 400", "paper\nhome last: idle none - - - any"), ("paper 0", "gave up"))
        self.check(("table\n" + CALLING_TEXT, "ok"))
        told = self.say("paper 400")
        self.assertEqual(told, "paper\n" + paper_text(find_paper(CALLING)[1]))
        self.check(("check\n" + told[6:], "good"))

    def test_a_fault(self):
        self.check(("table\n" + EXAMPLE_TEXT, "ok"),
                   ("paper 400", "fault stuck / out old: idle none - - - any; mine last - - o one; "
                                 "wait none - get.bare - any"))
        self.check((told_table("hand idle read -> idle: tell"), "ok"),
                   ("paper 9999", "fault break / home last: idle none - - - any / ask read by idle none - - - / old"))
        self.check((told_table("hand idle drop -> mine"), "ok"),
                   ("paper 9999", "fault clash / home last: idle none - - - any; mine none - - - any"))

    def test_gave_up(self):
        self.check(("table\n" + CALLING_TEXT, "ok"), ("paper 10", "gave up"), ("paper 0", "gave up"))
        self.assertTrue(self.say("paper 11").startswith("paper\n"))

    def test_a_paper_by_the_order_kept(self):
        self.check(("table\n" + CALLING_TEXT, "ok"), ("order no", "ok"))
        self.assertTrue(self.say("paper 400").startswith("fault break / busy last: "))
        self.check(("order yes", "ok"))
        self.assertTrue(self.say("paper 400").startswith("paper\n"))

    def test_a_run(self):
        self.check(("table\n" + EXAMPLE_TEXT, "ok"), ("run 1 3000", "none 6"), ("run 1 6", "none 6"),
                   ("run 1 5", "gave up"), ("run 1 0", "gave up"),
                   ("run 2 3000", "run stuck\nask 0 write 0\nget 0 0\ntake 0 0\nask 1 write 0"))
        for rows, told in (
                (("hand idle read -> idle: tell",), "run old\nask 0 read"),
                (("hand idle drop -> idle: send x bare", "house home x any -> home"),
                 "run full\nask 0 drop\nask 0 drop\nask 0 drop"),
                (("hand idle drop -> idle: send x bare",), "run norow\nask 0 drop\nget 0 0"),
                (("hand idle write -> mine",), "run clash\nask 0 write 0\nask 1 write 0")):
            self.check((told_table(*rows), "ok"), ("run 2 9999", told))

    def test_runs_of_each_number_of_hands(self):
        self.check(("table\n" + EMPTY_TEXT, "ok"))
        for many in range(1, 9):
            self.check((f"run {many} 1", "none 1"), (f"run {many} 0", "gave up"))
        self.check(("table\n" + ROUNDS_TEXT, "ok"), ("run 3 125", "none 125"), ("run 3 124", "gave up"))

    def test_a_run_by_the_order_kept(self):
        self.check(("table\n" + CALLING_TEXT, "ok"), ("run 2 3000", "none 20"), ("order no", "ok"),
                   ("run 2 3000", "run norow\nask 0 write 0\nget 0 0\nask 1 write 0\nget 1 0\ntake 0 1"))

    def test_the_deeds_of_a_run_told_lead_where_it_says(self):
        for text in (EXAMPLE_TEXT, CALLING_TEXT):
            self.check(("table\n" + text, "ok"), ("order no", "ok"), ("hands 2", "ok"))
            rows = self.say("run 2 3000").split("\n")
            told = [self.say(row) for row in rows[1:]]
            if rows[0] == "run stuck":
                self.check(("stuck", "yes"))
            else:
                self.assertEqual(told[-1], "broken " + rows[0][4:])


class TwoDesks(unittest.TestCase):
    def test_beside_each_other(self):
        one, other = Desk(), Desk()
        self.assertEqual(one.say("table\n" + CALLING_TEXT), "ok")
        with self.assertRaises(ValueError):
            other.say("may")
        self.assertEqual(other.say("table\n" + BRINGING_TEXT), "ok")
        self.assertEqual((one.say("hands 2"), other.say("order no")), ("ok", "ok"))
        self.assertEqual(one.say("may"), "ask 0 write 0, ask 1 write 0")
        self.assertEqual(other.say("may"), "ask 0 read, ask 0 write 0")
        self.assertEqual((one.say("ask 0 write 5"), other.say("ask 0 read")), ("done", "done"))
        self.assertEqual((one.say("get 0 0"), other.say("get 0 0")), ("done", "done"))
        self.assertEqual((one.say("take 0 0"), other.say("take 0 0")), ("wrote 0 5", "read 0 0"))
        self.assertEqual((one.say("answers"), other.say("answers")), ("wrote 0 5", "read 0 0"))

    def test_the_same_rows_bring_the_same_answers(self):
        rows = ["table\n" + LOOKING_TEXT, "hands 3", "ask 1 read", "get 1 0", "may", "take 1 0", "shape", "run 2 40",
                "paper 30", "answers"]
        self.assertEqual(*[[desk.say(row) for row in rows] for desk in (Desk(), Desk())])


class Sessions(DeskCase):
    """Rows made by a seed, good ones and others, to the desk and to the second one."""

    def rows(self, chance):
        hand, many, number = chance.randrange(4), chance.randrange(1, 5), chance.choice((0, 5, -3, 10 ** 40 - 1))
        yield from PROBES
        yield from ("order yes", "order no", f"hands {many}", "paper 6", f"run {min(many, 2)} 9", "check\n",
                    "check\nhome last: idle none - - - any", "check\nhome", "hands 9", "may ", "order")
        for _ in range(3):
            for deed in self.say("may").split(", "):
                yield deed.replace("write 0", f"write {number}")
        yield from (f"take {hand} 0", f"get {hand} 1", f"ask {hand} drop", "table\nhands", "table")

    def test_made_tables(self):
        for seed in range(25):
            chance = random.Random(seed)
            self.check(("table\n" + table_text(made_table(seed)), "ok"), (f"hands {1 + seed % 3}", "ok"))
            for _ in range(25):
                self.say(chance.choice([row for row in self.rows(chance) if row != "-"]))

    def test_told_tables(self):
        for seed, text in enumerate((EXAMPLE_TEXT, CALLING_TEXT, LOOKING_TEXT, BRINGING_TEXT)):
            chance = random.Random(seed)
            self.check(("table\n" + text, "ok"), ("hands 3", "ok"))
            for _ in range(60):
                self.say(chance.choice(self.say("may").split(", ")))
                self.say(chance.choice(PROBES))

    def test_a_run_row_by_row_is_the_run_played(self):
        for seed in range(12):
            table = made_table(seed)
            deeds = [deed for standing, deed in walked(table, 2, seed)]
            self.check(("table\n" + table_text(table), "ok"), ("hands 2", "ok"), ("order no", "ok"))
            for number, row in enumerate(deeds_text(deeds).split("\n")):
                self.assertEqual(read_deeds(row), [deeds[number]])
                told = self.say(row)
                standing, answers, broken = play(table, 2, deeds[:number + 1])
                if broken:
                    self.assertEqual(told, "broken " + broken[0])
                    break
                self.assertEqual(self.say("answers"), ", ".join(" ".join(map(str, each)) for each in answers) or "-")
                self.assertEqual(read_paper(self.say("shape")), [shape_of(standing)])
                self.assertEqual(self.say("shape"), shape_text(shape_of(standing)))


if __name__ == "__main__":
    unittest.main()

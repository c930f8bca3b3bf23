"""What breaks, in which order, and what is refused."""

import copy
import unittest

from copyclerk.errors import CopyError, NoDeed
from copyclerk.steps import step
from tests.builders import StepCase, line, standing, table_of

ONE = (("a", None),)
TWO = (("a", None), ("b", (1, 1)))


class NoRowForALetter(StepCase):
    def test_at_a_hand(self):
        table = table_of("hand wait a -> idle", "hand idle b -> wait", "house home a any -> out")
        before = standing(line(to=(("a", None), ("b", (0, 0))), back=TWO, flags=3), line("wait"))
        self.check_breaks(table, before, ("take", 0, 0), "norow")
        self.check_done(table, before, ("take", 0, 1), standing(line("wait", to=ONE, back=TWO, flags=3), line("wait")))

    def test_at_the_house(self):
        table = table_of("house out a any -> home", "house home b any -> out", "hand idle a -> wait")
        before = standing(line(to=TWO, back=TWO, flags=3), line("wait"))
        self.check_breaks(table, before, ("get", 0, 0), "norow")
        self.check_done(table, before, ("get", 0, 1),
                        standing(line(to=TWO, back=ONE, flags=3), line("wait"), state="out"))

    def test_at_the_house_by_whether_another_one_shares(self):
        only_last = table_of("house home a last -> out")
        only_more = table_of("house home a more -> out")
        alone = standing(line(back=ONE, flags=1), line(flags=2))
        beside = standing(line(back=ONE), line(flags=1))
        self.check_done(only_last, alone, ("get", 0, 0), standing(line(flags=1), line(flags=2), state="out"))
        self.check_breaks(only_last, beside, ("get", 0, 0), "norow")
        self.check_breaks(only_more, alone, ("get", 0, 0), "norow")
        self.check_done(only_more, beside, ("get", 0, 0), standing(line(), line(flags=1), state="out"))

    def test_without_any_row(self):
        before = standing(line(to=TWO, back=TWO))
        for deed in (("take", 0, 0), ("take", 0, 1), ("get", 0, 0), ("get", 0, 1)):
            self.check_breaks(table_of(), before, deed, "norow")

    def test_ahead_of_a_clash_that_is_there(self):
        before = standing(line("mine", to=ONE), line("mine"))
        self.check_breaks(table_of(), before, ("take", 0, 0), "norow")


class Full(StepCase):
    def test_a_third_letter_to_the_house(self):
        for load in ("bare", "value"):
            table = table_of(f"hand idle read -> wait: send c {load}", f"hand idle a -> wait: send c {load}")
            self.check_breaks(table, standing(line(back=TWO)), ("ask", 0, "read"), "full")
            self.check_breaks(table, standing(line(to=ONE, back=TWO)), ("take", 0, 0), "full")

    def test_as_many_sends_as_there_is_room_for(self):
        for many in range(5):
            sends = ", ".join(["send c bare"] * many)
            table = table_of("hand idle read -> wait" + (": " + sends if many else ""),
                             "house home a any -> out" + (": " + sends if many else ""))
            for there in range(3):
                asked = standing(line(back=TWO[:there]), line(back=ONE))
                got = standing(line(to=TWO[:there], back=ONE), line(to=ONE))
                letters = TWO[:there] + (("c", None),) * many
                if there + many > 2:
                    self.check_breaks(table, asked, ("ask", 0, "read"), "full")
                    self.check_breaks(table, got, ("get", 0, 0), "full")
                else:
                    self.check_done(table, asked, ("ask", 0, "read"),
                                    standing(line("wait", back=letters), line(back=ONE)))
                    self.check_done(table, got, ("get", 0, 0),
                                    standing(line(to=letters), line(to=ONE), state="out"))

    def test_a_third_letter_to_the_sender(self):
        table = table_of("house home a any -> out: send c bare")
        self.check_breaks(table, standing(line(to=TWO, back=ONE)), ("get", 0, 0), "full")

    def test_a_third_letter_to_an_owner(self):
        table = table_of("house home a any -> out: owner c value")
        for flags in (2, 3):
            for lines in ((line(back=ONE), line(to=TWO, flags=flags), line(flags=2)),
                          (line(back=ONE), line(flags=2), line(to=TWO, flags=flags)),
                          (line(to=TWO, back=ONE, flags=flags), line(flags=2), line())):
                self.check_breaks(table, standing(*lines), ("get", 0, 0), "full")
        lines = (line(to=TWO, back=ONE, flags=1), line(to=TWO), line(to=ONE, flags=2))
        behind = (line(to=TWO, flags=1), line(to=TWO), line(to=ONE + (("c", (0, 0)),), flags=2))
        self.check_done(table, standing(*lines), ("get", 0, 0), standing(*behind, state="out"))

    def test_a_third_letter_to_another_one_that_shares(self):
        table = table_of("house home a any -> out: others c value")
        for flags in (1, 3):
            for lines in ((line(back=ONE), line(to=TWO, flags=flags), line(flags=1)),
                          (line(back=ONE), line(flags=1), line(to=TWO, flags=flags))):
                self.check_breaks(table, standing(*lines), ("get", 0, 0), "full")
        lines = (line(to=TWO, back=ONE, flags=3), line(to=TWO, flags=2), line(to=ONE, flags=1))
        behind = (line(to=TWO, flags=3), line(to=TWO, flags=2), line(to=ONE + (("c", (0, 0)),), flags=1))
        self.check_done(table, standing(*lines), ("get", 0, 0), standing(*behind, state="out"))

    def test_letters_of_several_acts_to_one_hand(self):
        table = table_of("house home a any -> out: share, own, send c bare, owner d bare, others e bare",
                         "house home b any -> out: own, send c bare, owner d bare, send f bare")
        before = standing(line(back=TWO), line(flags=1))
        behind = standing(line(to=(("c", None), ("d", None)), back=TWO[1:], flags=3),
                          line(to=(("e", None),), flags=1), state="out")
        self.check_done(table, before, ("get", 0, 0), behind)
        self.check_breaks(table, before, ("get", 0, 1), "full")

    def test_a_letter_that_stay_has_left(self):
        table = table_of("house home a any -> out: stay", "house out a any -> busy",
                         "hand idle read -> idle: send b bare")
        before = standing(line(back=ONE + ONE))
        stayed = self.stepped(table, before, ("get", 0, 0))[0]
        self.assertEqual(stayed, standing(line(back=ONE + ONE), state="out"))
        self.check_breaks(table, stayed, ("ask", 0, "read"), "full")
        gone = self.stepped(table, stayed, ("get", 0, 0))[0]
        self.assertEqual(gone, standing(line(back=ONE), state="busy"))
        self.check_done(table, gone, ("ask", 0, "read"), standing(line(back=ONE + (("b", None),)), state="busy"))

    def test_a_letter_that_stays_leaves_the_way_to_the_hand_free(self):
        table = table_of("house home a any -> out: stay, send c bare, send d bare")
        self.check_done(table, standing(line(back=ONE)), ("get", 0, 0),
                        standing(line(to=(("c", None), ("d", None)), back=ONE), state="out"))


class Old(StepCase):
    TABLE = table_of("hand look read -> wait: tell", "hand look give -> wait: keep, tell")

    def test_a_tell_of_none(self):
        self.check_breaks(self.TABLE, standing(line("look")), ("ask", 0, "read"), "old")
        self.check_breaks(self.TABLE, standing(line("look", (0, 0), to=(("give", None),))), ("take", 0, 0), "old")

    def test_a_tell_of_another_version(self):
        for value in ((4, 8), (6, 8), (0, 0), (0, 8)):
            before = standing(line("look", value), store=(5, 8), last=(5, 8))
            self.check_breaks(self.TABLE, before, ("ask", 0, "read"), "old")
            before = standing(line("look", (5, 8), to=(("give", value),)), store=(5, 8), last=(5, 8))
            self.check_breaks(self.TABLE, before, ("take", 0, 0), "old")

    def test_the_version_counts_though_the_store_has_another_one(self):
        before = standing(line("look", (5, 8)), store=(4, 2), last=(5, 8))
        behind = standing(line("wait", (5, 8)), store=(4, 2), last=(5, 8))
        self.check_done(self.TABLE, before, ("ask", 0, "read"), behind, ("read", 0, 8))
        before = standing(line("look", (4, 2)), store=(4, 2), last=(5, 8))
        self.check_breaks(self.TABLE, before, ("ask", 0, "read"), "old")

    def test_a_tell_behind_a_lose(self):
        table = table_of("hand look read -> idle: lose, tell", "hand look drop -> idle: tell, lose")
        before = standing(line("look", (0, 0)))
        self.check_breaks(table, before, ("ask", 0, "read"), "old")
        self.check_done(table, before, ("ask", 0, "drop"), standing(line()), ("read", 0, 0))

    def test_a_value_is_old_behind_the_write_of_another_hand(self):
        table = table_of("hand idle write -> idle: put", "hand idle read -> idle: tell")
        before = standing(line(value=(0, 0)), line())
        behind = self.stepped(table, before, ("ask", 1, "write", 0))[0]
        self.check_breaks(table, behind, ("ask", 0, "read"), "old")
        self.check_done(table, behind, ("ask", 1, "read"), behind, ("read", 1, 0))


class Clashes(StepCase):
    TABLE = table_of("hand idle read -> look", "hand idle write -> mine: put", "hand mine drop -> idle",
                     "hand look drop -> mine", "hand idle a -> mine: keep", "house home a any -> out: keep",
                     "hand wait drop -> wait")

    def test_in_the_next_state(self):
        for state, deed, breaks in (
                ("mine", ("ask", 0, "write", 5), True), ("look", ("ask", 0, "write", 5), True),
                ("mine", ("ask", 0, "read"), True), ("mine", ("take", 0, 0), True),
                ("look", ("take", 0, 0), True), ("look", ("ask", 0, "read"), False),
                ("idle", ("ask", 0, "write", 5), False), ("wait", ("take", 0, 0), False)):
            for others in ((line(state),), (line("wait"), line(state)), (line(state), line("wait"))):
                before = standing(line(to=ONE, back=ONE), *others)
                if breaks:
                    self.check_breaks(self.TABLE, before, deed, "clash")
                else:
                    self.assertIsNone(self.stepped(self.TABLE, before, deed)[2])

    def test_the_state_ahead_of_the_acts_does_not_count(self):
        self.check_done(self.TABLE, standing(line("mine"), line("mine")), ("ask", 0, "drop"),
                        standing(line(), line("mine")))
        self.check_done(self.TABLE, standing(line("look"), line("wait")), ("ask", 0, "drop"),
                        standing(line("mine"), line("wait")))

    def test_a_clash_of_other_hands(self):
        before = standing(line("wait", back=ONE), line("mine"), line("look"))
        self.check_breaks(self.TABLE, before, ("ask", 0, "drop"), "clash")
        self.check_breaks(self.TABLE, before, ("get", 0, 0), "clash")


class TheFirstBreak(StepCase):
    def test_by_the_acts(self):
        for acts, word in (("tell, send c bare", "old"), ("send c bare, tell", "full"),
                           ("send b bare, tell, send c bare", "old"), ("send b bare, send c bare, tell", "full"),
                           ("lose, tell, send b bare, send c bare", "old")):
            there = TWO if acts.count("send") == 1 else ONE
            table = table_of(f"hand idle read -> look: {acts}", f"hand idle z -> look: {acts}")
            before = standing(line(to=(("z", None),), back=there), line("look"))
            self.check_breaks(table, before, ("ask", 0, "read"), word)
            self.check_breaks(table, before, ("take", 0, 0), word)

    def test_an_act_ahead_of_a_clash(self):
        table = table_of("hand idle read -> mine: tell", "hand idle drop -> mine: send c bare",
                         "hand idle write -> mine: put, send c bare", "house home a any -> out: send c bare")
        full = standing(line(back=TWO), line("mine"))
        self.check_breaks(table, full, ("ask", 0, "read"), "old")
        self.check_breaks(table, full, ("ask", 0, "drop"), "full")
        self.check_breaks(table, full, ("ask", 0, "write", 9), "full")
        self.check_breaks(table, standing(line("mine", to=TWO, back=ONE), line("mine")), ("get", 0, 0), "full")

    def test_what_was_done_and_answered_ahead_of_a_break_is_not(self):
        told = table_of("hand idle read -> wait: tell, lose, send b bare, send c bare, send d bare")
        self.check_breaks(told, standing(line(value=(0, 0))), ("ask", 0, "read"), "full")
        put = table_of("hand idle write -> wait: put, send b value, send c value, send d value")
        self.check_breaks(put, standing(line(value=(0, 0), want=3)), ("ask", 0, "write", 7), "full")
        clashing = table_of("hand idle write -> mine: put, send b value", "hand idle a -> mine: keep, put")
        before = standing(line(want=3, to=(("a", (0, 0)),)), line("look"))
        self.check_breaks(clashing, before, ("ask", 0, "write", 7), "clash")
        self.check_breaks(clashing, before, ("take", 0, 0), "clash")
        kept = table_of("house home a any -> out: keep, clear, own, owner c bare, send d bare, send f bare")
        self.check_breaks(kept, standing(line(back=(("a", None),), flags=1), line(flags=1)), ("get", 0, 0), "full")


class Refused(unittest.TestCase):
    def check(self, table, before, deed):
        kept = copy.deepcopy((table, before, deed))
        with self.subTest(deed=deed):
            with self.assertRaises(NoDeed) as caught:
                step(table, before, deed)
            self.assertIs(type(caught.exception), NoDeed)
            self.assertIsInstance(caught.exception, CopyError)
            self.assertEqual((table, before, deed), kept)

    def test_an_ask_without_a_row(self):
        table = table_of("hand wait read -> idle", "hand wait write -> idle", "hand wait drop -> idle",
                         "hand idle give -> wait")
        before = standing(line(), line("wait"))
        for deed in (("ask", 0, "read"), ("ask", 0, "write", 3), ("ask", 0, "drop")):
            self.check(table, before, deed)
            self.assertEqual(step(table, before, deed[:1] + (1,) + deed[2:])[2], None)

    def test_each_ask_has_a_row_of_its_own(self):
        deeds = {"read": ("ask", 0, "read"), "write": ("ask", 0, "write", 3), "drop": ("ask", 0, "drop")}
        for event in deeds:
            table = table_of(f"hand idle {event} -> wait")
            for other, deed in deeds.items():
                if other == event:
                    self.assertEqual(step(table, standing(line()), deed)[0][3][0][0], "wait")
                else:
                    self.check(table, standing(line()), deed)

    def test_an_ask_for_a_kind(self):
        # A hand is asked to read, to write or to drop: that a row is for a letter makes no ask of it.
        table = table_of("hand idle give -> wait")
        self.check(table, standing(line()), ("ask", 0, "give"))
        self.assertIsNone(step(table, standing(line(to=(("give", None),))), ("take", 0, 0))[2])

    def test_a_letter_that_is_not_there(self):
        table = table_of("hand idle a -> wait", "house home a any -> out")
        for many in range(3):
            before = standing(line(to=(ONE * 2)[:many]), line(back=(ONE * 2)[:many]))
            for k in (-3, -2, -1, 0, 1, 2, 3, 10 ** 40):
                for deed, wrong in ((("take", 0, k), ("take", 1, k)), (("get", 1, k), ("get", 0, k))):
                    self.check(table, before, wrong)
                    if 0 <= k < many:
                        self.assertIsNone(step(table, before, deed)[2])
                    else:
                        self.check(table, before, deed)

    def test_a_letter_that_is_not_there_though_there_is_no_row(self):
        before = standing(line(to=ONE, back=ONE))
        for word in ("take", "get"):
            for k in (-1, 1, 2):
                self.check(table_of(), before, (word, 0, k))

    def test_a_letter_that_waits(self):
        table = table_of("house home a any -> out: wait", "house out a any -> home", "hand idle a -> wait")
        before = standing(line(to=ONE, back=ONE + ONE), line(flags=1))
        self.check(table, before, ("get", 0, 0))
        self.check(table, before, ("get", 0, 1))
        self.assertIsNone(step(table, before, ("take", 0, 0))[2])
        self.assertIsNone(step(table, ("out",) + before[1:], ("get", 0, 0))[2])

    def test_a_letter_that_waits_behind_or_ahead_of_one_that_does_not(self):
        table = table_of("house home a any -> home: wait", "house home b any -> out")
        self.check(table, standing(line(back=TWO)), ("get", 0, 0))
        self.assertEqual(step(table, standing(line(back=TWO)), ("get", 0, 1)),
                         (standing(line(back=ONE), state="out"), None, None))
        self.check(table, standing(line(back=TWO[::-1])), ("get", 0, 1))

    def test_a_waiting_letter_where_the_standing_clashes(self):
        table = table_of("house home a any -> home: wait")
        self.check(table, standing(line("mine", back=ONE), line("mine")), ("get", 0, 0))

    def test_a_hand_that_is_not_there(self):
        table = table_of("hand idle read -> idle", "hand idle write -> idle", "hand idle drop -> idle",
                         "hand idle a -> idle", "house home a any -> home")
        for many in range(4):
            before = standing(*[line(to=ONE, back=ONE)] * many)
            for hand in (-5, -4, -3, -2, -1, 0, 1, 2, 3, 4, 20, 10 ** 40):
                for tail in (("ask", "read"), ("ask", "write", 1), ("ask", "drop"), ("take", 0), ("get", 0)):
                    deed = (tail[0], hand) + tail[1:]
                    if 0 <= hand < many:
                        self.assertIsNone(step(table, before, deed)[2])
                    else:
                        self.check(table, before, deed)

    def test_a_step_does_not_ask_whether_ways_keep_order(self):
        table = table_of("hand idle b -> wait: keep", "house home b any -> out: keep")
        before = standing(line(to=TWO, back=TWO), last=(1, 1))
        self.assertEqual(step(table, before, ("take", 0, 1)),
                         (standing(line("wait", (1, 1), to=ONE, back=TWO), last=(1, 1)), None, None))
        self.assertEqual(step(table, before, ("get", 0, 1)),
                         (standing(line(to=TWO, back=ONE), state="out", store=(1, 1), last=(1, 1)), None, None))

    def test_nothing_stays_of_what_was_refused(self):
        table = table_of("hand idle write -> idle: put")
        before = standing(line())
        self.check(table, before, ("ask", 0, "read"))
        self.assertEqual(step(table, before, ("ask", 0, "write", 2)),
                         (standing(line(value=(1, 2), want=2), last=(1, 2)), ("wrote", 0, 2), None))


if __name__ == "__main__":
    unittest.main()

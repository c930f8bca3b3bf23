"""What a deed makes of a standing: each act of a hand and of the house, alone and with others."""

import itertools
import unittest

from tests.builders import StepCase, line, standing, table_of

FORTY = 10 ** 40 - 1
NUMBERS = (0, 1, 7, -1, -12, FORTY, -FORTY)


class Asks(StepCase):
    def test_each_ask_without_acts(self):
        for event, deed in (("read", ("ask", 0, "read")), ("drop", ("ask", 0, "drop")),
                            ("write", ("ask", 0, "write", 0))):
            table = table_of(f"hand idle {event} -> wait")
            self.check_done(table, standing(line()), deed, standing(line("wait")))

    def test_the_row_of_the_state_and_the_event(self):
        table = table_of("hand idle read -> wait", "hand idle drop -> look", "hand idle write -> mine",
                         "hand look read -> mine", "hand look drop -> idle", "hand look write -> wait")
        for state, event, behind in (("idle", "read", "wait"), ("idle", "drop", "look"),
                                     ("idle", "write", "mine"), ("look", "read", "mine"),
                                     ("look", "drop", "idle"), ("look", "write", "wait")):
            deed = ("ask", 0, event) + ((3,) if event == "write" else ())
            want = 3 if event == "write" else 0
            self.check_done(table, standing(line(state)), deed, standing(line(behind, want=want)))

    def test_the_asked_hand_alone(self):
        table = table_of("hand idle read -> wait: send get bare")
        for hand in range(3):
            lines = [line()] * 3
            lines[hand] = line("wait", back=(("get", None),))
            self.check_done(table, standing(*[line()] * 3), ("ask", hand, "read"), standing(*lines))

    def test_twenty_hands(self):
        table = table_of("hand idle write -> idle: put")
        lines = [line()] * 19
        self.check_done(table, standing(*lines, line()), ("ask", 19, "write", 5),
                        standing(*lines, line(value=(1, 5), want=5), last=(1, 5)), ("wrote", 19, 5))

    def test_an_ask_leaves_letters_flags_house_and_store(self):
        table = table_of("hand idle read -> look")
        ways = dict(to=(("a", None), ("b", (1, 2))), back=(("c", (1, 2)), ("d", None)), flags=3)
        before = standing(line("idle", (1, 2), 2, **ways), line("wait", (0, 0), 9, flags=1),
                          state="busy", store=None, last=(1, 2))
        behind = standing(line("look", (1, 2), 2, **ways), line("wait", (0, 0), 9, flags=1),
                          state="busy", store=None, last=(1, 2))
        self.check_done(table, before, ("ask", 0, "read"), behind)

    def test_the_number_of_a_write_is_kept_as_want(self):
        table = table_of("hand idle write -> wait: send get bare")
        for old, number in itertools.product(NUMBERS, repeat=2):
            self.check_done(table, standing(line(want=old), line(want=old)), ("ask", 1, "write", number),
                            standing(line(want=old), line("wait", want=number, back=(("get", None),))))

    def test_other_asks_leave_want(self):
        table = table_of("hand idle read -> idle", "hand idle drop -> idle")
        for event in ("read", "drop"):
            self.check_done(table, standing(line(want=8)), ("ask", 0, event), standing(line(want=8)))


class HandActs(StepCase):
    """The letter that comes is give, for hand 1 of two."""

    OTHER = line("wait", (3, 3), 3, (("x", None),), (("y", (3, 3)),), 1)

    def check(self, acts, borne, before, behind, answer=None, last=(6, 6), new_last=None):
        table = table_of("hand idle give -> wait" + (": " + acts if acts else ""))
        self.check_done(
            table,
            standing(self.OTHER, line("idle", to=(("give", borne),), **before), store=(2, 2), last=last),
            ("take", 1, 0),
            standing(self.OTHER, line("wait", **behind), store=(2, 2), last=new_last or last),
            answer)

    def test_no_acts(self):
        self.check("", (5, 5), dict(value=(4, 4), want=4), dict(value=(4, 4), want=4))

    def test_keep(self):
        for old, borne in itertools.product(((4, 4), (6, 6), None), ((5, 5), (6, 6), None)):
            self.check("keep", borne, dict(value=old), dict(value=borne))

    def test_lose(self):
        for old in ((4, 4), (6, 6), None):
            self.check("lose", (5, 5), dict(value=old), dict(value=None))

    def test_put(self):
        for old, number in itertools.product(((4, 4), (6, 6), None), NUMBERS):
            self.check("put", (5, 5), dict(value=old, want=number), dict(value=(7, number), want=number),
                       ("wrote", 1, number), new_last=(7, number))

    def test_put_behind_another_number_of_writes(self):
        for version in (0, 1, 199):
            self.check("put", None, dict(want=5), dict(value=(version + 1, 5), want=5),
                       ("wrote", 1, 5), last=(version, 5), new_last=(version + 1, 5))

    def test_put_without_a_write_asked_writes_nought(self):
        self.check("put", None, {}, dict(value=(7, 0)), ("wrote", 1, 0), new_last=(7, 0))

    def test_tell(self):
        for number in NUMBERS:
            self.check("tell", None, dict(value=(6, number), want=2), dict(value=(6, number), want=2),
                       ("read", 1, number), last=(6, number))

    def test_tell_tells_the_lines_own_number(self):
        self.check("tell", None, dict(value=(6, 8)), dict(value=(6, 8)), ("read", 1, 8), last=(6, 9))

    def test_send_bare(self):
        for old in ((4, 4), (6, 6), None):
            self.check("send got bare", (5, 5), dict(value=old), dict(value=old, back=(("got", None),)))

    def test_send_value(self):
        for old in ((4, 4), (6, 6), None):
            self.check("send got value", (5, 5), dict(value=old), dict(value=old, back=(("got", old),)))

    def test_send_behind_another_letter(self):
        for old in (("was", None), ("was", (1, 1)), ("got", (4, 4))):
            self.check("send got value", None, dict(value=(4, 4), back=(old,)),
                       dict(value=(4, 4), back=(old, ("got", (4, 4)))))

    def test_two_sends_go_in_their_order(self):
        self.check("send a bare, send b value", None, dict(value=(4, 4)),
                   dict(value=(4, 4), back=(("a", None), ("b", (4, 4)))))
        self.check("send b value, send a bare", None, dict(value=(4, 4)),
                   dict(value=(4, 4), back=(("b", (4, 4)), ("a", None))))

    def test_keep_ahead_of_send_and_behind_it(self):
        self.check("keep, send got value", (5, 5), dict(value=(4, 4)),
                   dict(value=(5, 5), back=(("got", (5, 5)),)))
        self.check("send got value, keep", (5, 5), dict(value=(4, 4)),
                   dict(value=(5, 5), back=(("got", (4, 4)),)))
        self.check("keep, send got value", None, dict(value=(4, 4)), dict(back=(("got", None),)))
        self.check("send got value, keep", None, dict(value=(4, 4)), dict(back=(("got", (4, 4)),)))
        self.check("send a value, keep, send b value", (5, 5), dict(value=(4, 4)),
                   dict(value=(5, 5), back=(("a", (4, 4)), ("b", (5, 5)))))

    def test_lose_ahead_of_send_and_behind_it(self):
        self.check("lose, send got value", (5, 5), dict(value=(4, 4)), dict(back=(("got", None),)))
        self.check("send got value, lose", (5, 5), dict(value=(4, 4)), dict(back=(("got", (4, 4)),)))

    def test_put_ahead_of_send_and_behind_it(self):
        self.check("put, send got value", None, dict(value=(4, 4), want=-3),
                   dict(value=(7, -3), want=-3, back=(("got", (7, -3)),)), ("wrote", 1, -3), new_last=(7, -3))
        self.check("send got value, put", None, dict(value=(4, 4), want=-3),
                   dict(value=(7, -3), want=-3, back=(("got", (4, 4)),)), ("wrote", 1, -3), new_last=(7, -3))

    def test_keep_and_lose_and_put(self):
        self.check("keep, lose", (5, 5), dict(value=(4, 4)), {})
        self.check("lose, keep", (5, 5), dict(value=(4, 4)), dict(value=(5, 5)))
        self.check("keep, put", (5, 5), dict(want=1), dict(value=(7, 1), want=1), ("wrote", 1, 1),
                   new_last=(7, 1))
        self.check("put, keep", (5, 5), dict(want=1), dict(value=(5, 5), want=1), ("wrote", 1, 1),
                   new_last=(7, 1))
        self.check("put, lose", (5, 5), dict(want=1), dict(want=1), ("wrote", 1, 1), new_last=(7, 1))

    def test_keep_and_tell_and_lose(self):
        self.check("keep, tell", (6, 9), dict(value=(4, 4)), dict(value=(6, 9)), ("read", 1, 9))
        self.check("tell, keep", (5, 5), dict(value=(6, 9)), dict(value=(5, 5)), ("read", 1, 9))
        self.check("tell, lose", None, dict(value=(6, 9)), {}, ("read", 1, 9))
        self.check("keep, tell, send got value, lose", (6, 9), {}, dict(back=(("got", (6, 9)),)), ("read", 1, 9))

    def test_acts_come_at_asks_too(self):
        for event in ("read", "drop", "write"):
            deed = ("ask", 0, event) + ((4,) if event == "write" else ())
            want = 4 if event == "write" else 11
            before = standing(line(value=(2, 5), want=11), last=(2, 5))
            self.check_done(table_of(f"hand idle {event} -> wait: tell, send got value, lose"), before, deed,
                            standing(line("wait", None, want, back=(("got", (2, 5)),)), last=(2, 5)),
                            ("read", 0, 5))
            self.check_done(table_of(f"hand idle {event} -> wait: put, send got value"), before, deed,
                            standing(line("wait", (3, want), want, back=(("got", (3, want)),)), last=(3, want)),
                            ("wrote", 0, want))

    def test_the_next_state_is_there_behind_the_acts_and_may_be_the_same(self):
        table = table_of("hand look call -> look: tell", "hand idle call -> look")
        before = standing(line("look", (0, 0), to=(("call", None),)))
        self.check_done(table, before, ("take", 0, 0), standing(line("look", (0, 0))), ("read", 0, 0))


class TakenOffAWay(StepCase):
    TABLE = table_of("hand idle a -> wait: keep", "hand idle b -> look: keep",
                     "house home a any -> out: keep", "house home b any -> busy: keep")
    TWO = (("a", (1, 1)), ("b", (2, 2)))

    def test_taken_first_and_second(self):
        before = standing(line(to=self.TWO, back=self.TWO), line(to=self.TWO))
        self.check_done(self.TABLE, before, ("take", 0, 0),
                        standing(line("wait", (1, 1), to=self.TWO[1:], back=self.TWO), line(to=self.TWO)))
        self.check_done(self.TABLE, before, ("take", 0, 1),
                        standing(line("look", (2, 2), to=self.TWO[:1], back=self.TWO), line(to=self.TWO)))

    def test_got_first_and_second(self):
        before = standing(line(back=self.TWO), line(to=self.TWO, back=self.TWO))
        self.check_done(self.TABLE, before, ("get", 1, 0),
                        standing(line(back=self.TWO), line(to=self.TWO, back=self.TWO[1:]),
                                 state="out", store=(1, 1)))
        self.check_done(self.TABLE, before, ("get", 1, 1),
                        standing(line(back=self.TWO), line(to=self.TWO, back=self.TWO[:1]),
                                 state="busy", store=(2, 2)))

    def test_letters_that_are_alike(self):
        alike = (("a", (1, 1)), ("a", (1, 1)))
        for k in (0, 1):
            self.check_done(self.TABLE, standing(line(to=alike)), ("take", 0, k),
                            standing(line("wait", (1, 1), to=alike[:1])))
            self.check_done(self.TABLE, standing(line(back=alike)), ("get", 0, k),
                            standing(line(back=alike[:1]), state="out", store=(1, 1)))

    def test_the_way_has_room_again_for_what_the_acts_send(self):
        table = table_of("hand idle a -> wait: send c bare", "house home a any -> out: send c bare")
        self.check_done(table, standing(line(to=self.TWO, back=(("a", None),))), ("take", 0, 0),
                        standing(line("wait", to=self.TWO[1:], back=(("a", None), ("c", None)))))
        self.check_done(table, standing(line(to=(("b", None),), back=self.TWO)), ("get", 0, 0),
                        standing(line(to=(("b", None), ("c", None)), back=self.TWO[1:]), state="out"))


class HouseActs(StepCase):
    """The letter that comes is get, of hand 1 of three; the store has (2, 2), last is (6, 6)."""

    def check(self, acts, borne, flags, behind, store=(2, 2), new_store=(2, 2), when="any"):
        """behind is, for each hand, what has come to it and its flags."""
        table = table_of(f"house home get {when} -> out" + (": " + acts if acts else ""))
        lines = [line("wait", (4, 4), 4, (), (("get", borne),) if hand == 1 else (), flags[hand])
                 for hand in range(3)]
        lines_behind = [line("wait", (4, 4), 4, come, (), left) for come, left in behind]
        self.check_done(table, standing(*lines, store=store, last=(6, 6)), ("get", 1, 0),
                        standing(*lines_behind, state="out", store=new_store, last=(6, 6)))

    def test_no_acts(self):
        self.check("", (5, 5), (1, 2, 3), (((), 1), ((), 2), ((), 3)))

    def test_keep(self):
        for old, borne in itertools.product(((2, 2), (6, 6), None), ((5, 5), (6, 6), None)):
            self.check("keep", borne, (0, 0, 0), (((), 0), ((), 0), ((), 0)), old, borne)

    def test_send_goes_to_the_sender_alone(self):
        for flags in itertools.product(range(4), repeat=3):
            self.check("send give bare", (5, 5), flags,
                       (((), flags[0]), ((("give", None),), flags[1]), ((), flags[2])))

    def test_send_with_the_stores_value(self):
        for store in ((2, 2), (6, 6), (0, 0), None):
            self.check("send give value", (5, 5), (0, 0, 0), (((), 0), ((("give", store),), 0), ((), 0)),
                       store, store)

    def test_keep_ahead_of_send_and_behind_it(self):
        for borne in ((5, 5), None):
            self.check("keep, send give value", borne, (0, 0, 0), (((), 0), ((("give", borne),), 0), ((), 0)),
                       (2, 2), borne)
            self.check("send give value, keep", borne, (0, 0, 0), (((), 0), ((("give", (2, 2)),), 0), ((), 0)),
                       (2, 2), borne)
            self.check("send a value, keep, send b value", borne, (0, 0, 0),
                       (((), 0), ((("a", (2, 2)), ("b", borne)), 0), ((), 0)), (2, 2), borne)

    def test_owner_goes_to_each_that_owns_the_sender_too(self):
        for load, borne in (("bare", None), ("value", (2, 2))):
            for flags in itertools.product(range(4), repeat=3):
                self.check(f"owner call {load}", (5, 5), flags,
                           [((("call", borne),) if flag in (2, 3) else (), flag) for flag in flags])

    def test_others_goes_to_each_that_shares_never_to_the_sender(self):
        for load, borne in (("bare", None), ("value", (2, 2))):
            for flags in itertools.product(range(4), repeat=3):
                self.check(f"others call {load}", (5, 5), flags,
                           [((("call", borne),) if flags[hand] in (1, 3) and hand != 1 else (), flags[hand])
                            for hand in range(3)])

    def test_owner_and_others_with_a_store_without_value(self):
        self.check("owner call value, others stop value", (5, 5), (1, 2, 3),
                   (((("stop", None),), 1), ((("call", None),), 2), ((("call", None), ("stop", None)), 3)),
                   None, None)

    def test_owner_and_others_of_nobody(self):
        self.check("owner call bare, others call value", (5, 5), (0, 0, 0), (((), 0), ((), 0), ((), 0)))
        self.check("owner call bare, others call value", (5, 5), (0, 1, 0), (((), 0), ((), 1), ((), 0)))

    def test_own_and_share_beside_what_the_sender_did(self):
        for flags in itertools.product(range(4), repeat=3):
            self.check("own", None, flags, (((), flags[0]), ((), (2, 3, 2, 3)[flags[1]]), ((), flags[2])))
            self.check("share", None, flags, (((), flags[0]), ((), (1, 1, 3, 3)[flags[1]]), ((), flags[2])))
            self.check("own, share", None, flags, (((), flags[0]), ((), 3), ((), flags[2])))

    def test_forget_the_sender_alone(self):
        for flags in itertools.product(range(4), repeat=3):
            self.check("forget", None, flags, (((), flags[0]), ((), 0), ((), flags[2])))

    def test_clear_all(self):
        for flags in itertools.product(range(4), repeat=3):
            self.check("clear", None, flags, (((), 0), ((), 0), ((), 0)))

    def test_own_ahead_of_owner_and_behind_it(self):
        self.check("own, owner call bare", None, (0, 0, 2),
                   (((), 0), ((("call", None),), 2), ((("call", None),), 2)))
        self.check("owner call bare, own", None, (0, 0, 2), (((), 0), ((), 2), ((("call", None),), 2)))

    def test_clear_ahead_of_others_and_behind_it(self):
        self.check("clear, others call bare", None, (1, 1, 3), (((), 0), ((), 0), ((), 0)))
        self.check("others call bare, clear", None, (1, 1, 3),
                   (((("call", None),), 0), ((), 0), ((("call", None),), 0)))
        self.check("clear, owner call bare", None, (2, 2, 3), (((), 0), ((), 0), ((), 0)))
        self.check("owner call bare, clear", None, (2, 0, 3),
                   (((("call", None),), 0), ((), 0), ((("call", None),), 0)))

    def test_clear_and_then_own_or_share(self):
        self.check("clear, own", None, (1, 1, 3), (((), 0), ((), 2), ((), 0)))
        self.check("own, clear", None, (1, 1, 3), (((), 0), ((), 0), ((), 0)))
        self.check("clear, share, owner call bare, others call bare", None, (3, 3, 3),
                   (((), 0), ((), 1), ((), 0)))

    def test_forget_ahead_of_owner_and_behind_it(self):
        self.check("forget, owner call bare", None, (2, 2, 0), (((("call", None),), 2), ((), 0), ((), 0)))
        self.check("owner call bare, forget", None, (2, 2, 0),
                   (((("call", None),), 2), ((("call", None),), 0), ((), 0)))

    def test_forget_and_share(self):
        self.check("forget, share", None, (3, 3, 3), (((), 3), ((), 1), ((), 3)))
        self.check("share, forget", None, (3, 3, 3), (((), 3), ((), 0), ((), 3)))
        self.check("forget, others call bare", None, (1, 1, 0), (((("call", None),), 1), ((), 0), ((), 0)))
        self.check("share, others call bare", None, (1, 0, 0), (((("call", None),), 1), ((), 1), ((), 0)))

    def test_keep_ahead_of_owner_and_others(self):
        self.check("keep, owner call value, others stop value", (5, 5), (2, 1, 1),
                   (((("call", (5, 5)),), 2), ((), 1), ((("stop", (5, 5)),), 1)), (2, 2), (5, 5))
        self.check("owner call value, keep, others stop value", (5, 5), (2, 1, 1),
                   (((("call", (2, 2)),), 2), ((), 1), ((("stop", (5, 5)),), 1)), (2, 2), (5, 5))

    def test_the_same_act_twice(self):
        self.check("send a bare, send a value", None, (0, 0, 0),
                   (((), 0), ((("a", None), ("a", (2, 2))), 0), ((), 0)))
        self.check("own, own, share, share", None, (0, 0, 0), (((), 0), ((), 3), ((), 0)))

    def test_letters_go_behind_those_on_the_way(self):
        table = table_of("house home get any -> home: send give value")
        before = standing(line(to=(("old", (1, 1)),), back=(("get", None),)), store=(3, 3), last=(3, 3))
        self.check_done(table, before, ("get", 0, 0),
                        standing(line(to=(("old", (1, 1)), ("give", (3, 3)))), store=(3, 3), last=(3, 3)))


class Stay(StepCase):
    BEFORE = standing(line(back=(("get", (5, 5)), ("more", None))), line(flags=1), last=(6, 6))

    def test_the_letter_is_left_on_its_way(self):
        self.check_done(table_of("house home get any -> out: stay"), self.BEFORE, ("get", 0, 0),
                        standing(*self.BEFORE[3], state="out", last=(6, 6)))
        self.check_done(table_of("house home more any -> out: stay"), self.BEFORE, ("get", 0, 1),
                        standing(*self.BEFORE[3], state="out", last=(6, 6)))

    def test_stay_at_any_place_of_the_acts(self):
        for acts in ("stay, keep, others call value", "keep, stay, others call value",
                     "keep, others call value, stay", "stay, keep, others call value, stay"):
            self.check_done(table_of(f"house home get any -> busy: {acts}"), self.BEFORE, ("get", 0, 0),
                            standing(self.BEFORE[3][0], line(to=(("call", (5, 5)),), flags=1),
                                     state="busy", store=(5, 5), last=(6, 6)))

    def test_it_comes_again(self):
        table = table_of("house home get any -> busy: stay, share", "house busy get any -> out: keep")
        first = self.stepped(table, standing(line(back=(("get", (0, 0)),)), store=None), ("get", 0, 0))
        self.assertEqual(first, (standing(line(back=(("get", (0, 0)),), flags=1), state="busy", store=None),
                                 None, None))
        self.check_done(table, first[0], ("get", 0, 0), standing(line(flags=1), state="out"))


class Whens(StepCase):
    """Which row of the house it is, by whether another hand shares."""

    BOTH = table_of("house home get more -> busy", "house home get last -> out")
    ANY = table_of("house home get any -> busy: share")

    def before(self, flags):
        lines = [line(flags=flag) for flag in flags]
        lines[1] = line(back=(("get", None),), flags=flags[1])
        return standing(*lines)

    def test_last_and_more(self):
        for flags in itertools.product(range(4), repeat=3):
            others = flags[0] in (1, 3) or flags[2] in (1, 3)
            behind = standing(*[line(flags=flag) for flag in flags], state="busy" if others else "out")
            self.check_done(self.BOTH, self.before(flags), ("get", 1, 0), behind)

    def test_the_sender_alone(self):
        for flags in range(4):
            before = standing(line(back=(("get", None),), flags=flags))
            self.check_done(self.BOTH, before, ("get", 0, 0), standing(line(flags=flags), state="out"))

    def test_any(self):
        for flags in itertools.product(range(4), repeat=3):
            behind = [line(flags=flag) for flag in flags]
            behind[1] = line(flags=flags[1] | 1)
            self.check_done(self.ANY, self.before(flags), ("get", 1, 0), standing(*behind, state="busy"))

    def test_it_hangs_on_the_standing_ahead_of_the_acts(self):
        table = table_of("house home get more -> busy: clear, send a bare", "house home get last -> out: send b bare")
        self.check_done(table, self.before((1, 1, 0)), ("get", 1, 0),
                        standing(line(), line(to=(("a", None),)), line(), state="busy"))


if __name__ == "__main__":
    unittest.main()

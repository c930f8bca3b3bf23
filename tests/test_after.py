"""What one deed makes of a shape: the words, the picked line, the acts of a hand upon marks."""

import itertools
import unittest

from copyclerk.after import after
from tests.aftercase import COUNTS, MARKS, AfterCase
from tests.builders import config, shape, table_of

GO = ("go", "bare")
A = ("a", "bare")
B = ("b", "last")
W = ("w", "bare")


class Words(AfterCase):
    def test_no_configs(self):
        table = table_of("hand idle read -> idle", "house home go any -> home")
        for state, mark in itertools.product(("home", "out"), MARKS):
            for order in (True, False):
                self.assertEqual(self.told(table, shape(state=state, mark=mark), order), [])

    def test_a_table_without_rows(self):
        table = table_of()
        self.assertEqual(self.told(table, shape((config(), "some"), (config("look"), "any"))), [])
        one = config(to=(A,), back=(B,))
        self.assertEqual(self.told(table, shape((one, "some"))),
                         [(("get", one, 0), "norow", ()), (("take", one, 0), "norow", ())])

    def test_asks_that_have_a_row(self):
        for events in itertools.chain.from_iterable(
                itertools.combinations(("drop", "read", "write"), many) for many in range(4)):
            table = table_of(*[f"hand look {event} -> idle" for event in reversed(events)])
            one = config("look", "old", flags=3)
            within = shape((config(), "one"), (one, "one"), state="out")
            for order in (True, False):
                self.assertEqual(self.words(table, within, order), [("ask", one, event) for event in events])

    def test_asks_of_each_config(self):
        table = table_of("hand idle read -> wait", "hand look drop -> wait", "hand look write -> wait")
        configs = [config(), config("look"), config("look", "last"), config("look", to=(A,)), config("wait")]
        within = shape(*[(each, "one") for each in configs])
        asks = [word for word in self.words(table, within) if word[0] == "ask"]
        self.assertEqual(asks, sorted([("ask", configs[0], "read")] + [
            ("ask", each, event) for each in configs[1:4] for event in ("drop", "write")]))

    def test_a_row_for_a_kind_is_no_ask(self):
        table = table_of("hand idle a -> idle", "house home a any -> home")
        self.assertEqual(self.told(table, shape((config(), "some"))), [])

    def test_letters_by_order_and_else(self):
        table = table_of("hand idle a -> idle", "hand idle b -> idle", "house home a any -> home",
                         "house home b any -> home")
        one = config(to=(A, B), back=(B, A))
        within = shape((one, "one"))
        self.assertEqual(self.words(table, within, True), [("get", one, 0), ("take", one, 0)])
        self.assertEqual(self.words(table, within, False),
                         [("get", one, 0), ("get", one, 1), ("take", one, 0), ("take", one, 1)])

    def test_which_letter_comes(self):
        table = table_of("hand idle a -> wait", "hand idle b -> look", "house home a any -> out",
                         "house home b any -> busy")
        for to in ((A, B), (B, A)):
            one = config(to=to, back=to)
            states = {A: ("wait", "out"), B: ("look", "busy")}
            found = self.told(table, shape((one, "one")), False)
            self.assertEqual(found, [
                (("get", one, k), "", shape((config(to=to, back=to[1 - k:2 - k]), "one"), state=states[to[k]][1]))
                for k in (0, 1)] + [
                (("take", one, k), "", shape((config(states[to[k]][0], to=to[1 - k:2 - k], back=to), "one")))
                for k in (0, 1)])

    def test_two_letters_alike(self):
        table = table_of("hand idle a -> idle", "house home a any -> home")
        one = config(to=(A, A), back=(A, A))
        self.assertEqual(self.words(table, shape((one, "one")), True), [("get", one, 0), ("take", one, 0)])
        self.assertEqual(len(self.words(table, shape((one, "one")), False)), 4)

    def test_order_left_out_is_true(self):
        table = table_of("hand idle a -> idle", "house home a any -> home")
        within = shape((config(to=(A, A), back=(A, A)), "one"))
        self.assertEqual(self.told(table, within), self.told(table, within, True))
        self.assertEqual(after(table=table, shape=within, order=False), self.told(table, within, False))
        self.assertNotEqual(self.told(table, within), self.told(table, within, False))

    def test_letters_to_the_house_that_wait_are_left_out(self):
        table = table_of("house home w any -> home: wait", "house home a any -> home", "house out w any -> out",
                         "house out a any -> out: wait")
        for back, by_order, without in (((W,), [], []), ((W, W), [], []), ((W, A), [], [1]), ((A, W), [0], [0]),
                                        ((A, A), [0], [0, 1])):
            one = config(back=back)
            self.assertEqual(self.words(table, shape((one, "some")), True), [("get", one, k) for k in by_order])
            self.assertEqual(self.words(table, shape((one, "some")), False), [("get", one, k) for k in without])
        one = config(back=(W, A))
        self.assertEqual(self.words(table, shape((one, "one"), state="out"), False), [("get", one, 0)])
        self.assertEqual(self.words(table, shape((one, "one"), state="busy"), False),
                         [("get", one, 0), ("get", one, 1)])

    def test_a_letter_to_a_hand_never_waits(self):
        table = table_of("house home w any -> home: wait", "hand idle w -> idle")
        one = config(to=(W,))
        self.assertEqual(self.words(table, shape((one, "one"))), [("take", one, 0)])

    def test_configs_of_each_count(self):
        table = table_of("hand idle a -> wait", "hand idle read -> idle")
        for count in COUNTS:
            one = config(to=(A,))
            self.assertEqual(self.words(table, shape((one, count))), [("ask", one, "read"), ("take", one, 0)])


class Picked(AfterCase):
    TABLE = table_of("hand idle read -> wait")
    WORD = ("ask", config(), "read")

    def check(self, within, *wanted):
        self.check_word(self.TABLE, within, self.WORD, *wanted)

    def test_a_config_of_each_count(self):
        self.check(shape((config(), "one")), shape((config("wait"), "one")))
        self.check(shape((config(), "some")), shape((config(), "any"), (config("wait"), "one")))
        self.check(shape((config(), "any")), shape((config(), "any"), (config("wait"), "one")))

    def test_the_others_stay_as_they_are(self):
        others = [(config("look"), "one"), (config("mine", flags=2), "one"), (config("wait", "old"), "any"),
                  (config("wait", to=(B,)), "some")]
        for many in range(5):
            for chosen in itertools.combinations(others, many):
                with self.subTest(chosen=chosen):
                    rights = {each[0] for each, count in chosen}
                    clashes = ["clash"] if {"look", "mine"} <= rights else []
                    self.check(shape((config(), "one"), *chosen), shape((config("wait"), "one"), *chosen), *clashes)

    def test_the_picked_line_falls_together_with_another_config(self):
        for count in COUNTS:
            self.check(shape((config(), "one"), (config("wait"), count)), shape((config("wait"), "some")))
            self.check(shape((config(), "some"), (config("wait"), count)),
                       shape((config(), "any"), (config("wait"), "some")))

    def test_the_picked_line_falls_together_with_its_own_rest(self):
        table = table_of("hand idle read -> idle")
        for count, behind in (("one", "one"), ("some", "some"), ("any", "some")):
            self.check_word(table, shape((config(), count)), self.WORD, shape((config(), behind)))

    def test_house_and_store_stay(self):
        for state, mark in itertools.product(("home", "out", "busy"), MARKS):
            self.check(shape((config(), "one"), state=state, mark=mark),
                       shape((config("wait"), "one"), state=state, mark=mark))


class HandActs(AfterCase):
    def check_ask(self, acts, one, behind, mark="last", behind_mark="last", events=("read", "write", "drop")):
        for event in events:
            table = table_of(f"hand idle {event} -> wait: {acts}")
            word = ("ask", config("idle", *one), event)
            wanted = behind if isinstance(behind, str) else shape((config("wait", *behind), "one"), mark=behind_mark)
            with self.subTest(acts=acts, one=one, event=event):
                self.check_word(table, shape((word[1], "one"), mark=mark), word, wanted)

    def check_take(self, acts, letter, one, behind, mark="last", behind_mark="last"):
        """One is the mark and, perhaps, the letters to the house; the letter told is the one to the hand."""
        table = table_of(f"hand idle go -> wait: {acts}")
        picked = config("idle", one[0], (("go", letter),), *one[1:])
        wanted = behind if isinstance(behind, str) else shape((config("wait", *behind), "one"), mark=behind_mark)
        with self.subTest(acts=acts, one=one, letter=letter):
            self.check_word(table, shape((picked, "one"), mark=mark), ("take", picked, 0), wanted)

    def test_without_acts(self):
        for mark, letter, flags in itertools.product(MARKS, ("bare", "last", "old"), range(4)):
            one = config("idle", mark, (("go", letter), B), (A,), flags)
            table = table_of("hand idle go -> mine")
            behind = shape((config("mine", mark, (B,), (A,), flags), "one"))
            self.check_word(table, shape((one, "one")), ("take", one, 0), behind)

    def test_a_letter_without_a_row(self):
        table = table_of("hand idle a -> idle", "hand look go -> idle")
        for count in COUNTS:
            one = config(to=(GO, A))
            self.assertEqual(self.told(table, shape((one, count)), True), [(("take", one, 0), "norow", ())])
            found = self.told(table, shape((one, count)), False)
            self.assertEqual([each[:2] for each in found], [(("take", one, 0), "norow"), (("take", one, 1), "")])

    def test_keep(self):
        for mark, (letter, kept) in itertools.product(MARKS, (("bare", "none"), ("last", "last"), ("old", "old"))):
            self.check_take("keep", letter, (mark,), (kept,))
            self.check_take("keep, keep", letter, (mark,), (kept,))

    def test_lose(self):
        for mark, letter in itertools.product(MARKS, ("bare", "last", "old")):
            self.check_ask("lose", (mark,), ("none",))
            self.check_take("lose", letter, (mark,), ("none",))

    def test_tell(self):
        self.check_ask("tell", ("last",), ("last",))
        self.check_ask("tell", ("old",), "old")
        self.check_ask("tell", ("none",), "old")

    def test_send(self):
        for mark, letter in (("none", "bare"), ("last", "last"), ("old", "old")):
            self.check_ask("send b value", (mark,), (mark, (), (("b", letter),)))
            self.check_ask("send b bare", (mark,), (mark, (), (("b", "bare"),)))
            self.check_ask("send b value", (mark, (A,), (A,), 1), (mark, (A,), (A, ("b", letter)), 1))
            self.check_ask("send b value, send a bare", (mark,), (mark, (), (("b", letter), A)))

    def test_send_upon_a_full_way(self):
        for back in ((A, A), (A, B)):
            self.check_ask("send b value", ("last", (), back), "full")
            self.check_ask("send b bare", ("none", (), back), "full")
        self.check_ask("send b value, send b bare", ("last", (), (A,)), "full")
        self.check_ask("send b value, send b bare, send b bare", ("last",), "full")
        self.check_ask("send b value", ("last", (A, A), (A,)), ("last", (A, A), (A, B)))

    def test_an_order_that_matters(self):
        self.check_ask("send b value, lose", ("last",), ("none", (), (B,)))
        self.check_ask("lose, send b value", ("last",), ("none", (), (("b", "bare"),)))
        self.check_ask("tell, lose", ("last",), ("none",))
        self.check_ask("lose, tell", ("last",), "old")
        self.check_take("keep, tell", "last", ("old",), ("last",))
        self.check_take("tell, keep", "last", ("old",), "old")
        self.check_take("tell, keep", "old", ("last",), ("old",))
        self.check_take("keep, tell", "old", ("last",), "old")
        self.check_take("keep, tell", "bare", ("last",), "old")
        self.check_take("keep, lose", "last", ("old",), ("none",))
        self.check_take("lose, keep", "last", ("old",), ("last",))
        self.check_take("keep, send b value", "last", ("old",), ("last", (), (B,)))
        self.check_take("send b value, keep", "last", ("old",), ("last", (), (("b", "old"),)))

    def test_the_first_break_by_the_acts(self):
        self.check_ask("tell, send b bare", ("old", (), (A, A)), "old")
        self.check_ask("send b bare, tell", ("old", (), (A, A)), "full")

    def test_put(self):
        for mark in MARKS:
            self.check_ask("put", (mark,), ("last",), "last", "old")
            self.check_ask("put", (mark,), ("last",), "old", "old")
            self.check_ask("put", (mark,), ("last",), "none", "none")

    def test_put_makes_the_picked_lines_letters_old(self):
        letters = (("last", "last"), ("old", "bare"))
        olden = (("last", "old"), ("old", "bare"))
        self.check_ask("put", ("none", letters, letters, 3), ("last", olden, olden, 3), "last", "old")
        self.check_ask("put", ("last", letters[::-1], letters[:1]), ("last", olden[::-1], olden[:1]), "last", "old")
        self.check_ask("put", ("old", (("a", "old"),), (A,)), ("last", (("a", "old"),), (A,)), "last", "old")

    def test_put_makes_the_letter_that_came_old(self):
        self.check_take("put, keep", "last", ("none",), ("old",), "last", "old")
        self.check_take("put, keep", "old", ("none",), ("old",), "last", "old")
        self.check_take("put, keep", "bare", ("none",), ("none",), "last", "old")
        self.check_take("keep, put", "last", ("none",), ("last",), "last", "old")
        self.check_take("keep, put", "old", ("none",), ("last",), "last", "old")

    def test_what_is_sent_ahead_of_put_and_behind_it(self):
        self.check_ask("send b value, put", ("last",), ("last", (), (("b", "old"),)), "last", "old")
        self.check_ask("put, send b value", ("last",), ("last", (), (B,)), "last", "old")
        self.check_ask("send b value, put, send b value", ("last",), ("last", (), (("b", "old"), B)), "last", "old")
        self.check_ask("put, lose, send b value", ("last",), ("none", (), (("b", "bare"),)), "last", "old")
        self.check_take("put, keep, send b value", "last", ("none",), ("old", (), (("b", "old"),)), "last", "old")

    def test_put_behind_which_it_breaks(self):
        self.check_ask("put, send b value", ("last", (), (A, A)), "full")

    def test_put_makes_the_rest_old(self):
        table = table_of("hand idle write -> wait: put", "hand idle go -> wait: put")
        letters = (("last", "last"), ("b", "old"))
        olden = (("last", "old"), ("b", "old"))
        for count in COUNTS:
            rest = [(config("look", "last", letters, letters[:1], 1), count),
                    (config("look", "none", (A,), (), 2), count)]
            behind = shape((config("wait", "last"), "one"), (config("look", "old", olden, olden[:1], 1), count),
                           rest[1], mark="old")
            self.check_word(table, shape((config(), "one"), *rest), ("ask", config(), "write"), behind)
            one = config(to=(GO,))
            self.check_word(table, shape((one, "one"), *rest), ("take", one, 0), behind)

    def test_put_makes_the_rest_of_its_own_config_old(self):
        table = table_of("hand mine write -> wait: put")
        one = config("mine", "last", (B,))
        olden = (("b", "old"),)
        behind = shape((config("wait", "last", olden), "one"), (config("mine", "old", olden), "any"), mark="old")
        for count in ("some", "any"):
            self.check_word(table, shape((one, count)), ("ask", one, "write"), behind, "clash")

    def test_configs_that_fall_together_by_put(self):
        table = table_of("hand idle write -> wait: put")
        for count, other in itertools.product(COUNTS, repeat=2):
            added = "any" if (count, other) == ("any", "any") else "some"
            for one, two, both in (
                    (config("look", "last"), config("look", "old"), config("look", "old")),
                    (config("look", to=(B,)), config("look", to=(("b", "old"),)), config("look", to=(("b", "old"),))),
                    (config("look", back=(B,)), config("look", back=(("b", "old"),)),
                     config("look", back=(("b", "old"),)))):
                before = shape((config(), "one"), (one, count), (two, other))
                behind = shape((config("wait", "last"), "one"), (both, added), mark="old")
                self.check_word(table, before, ("ask", config(), "write"), behind)

    def test_three_and_four_configs_that_fall_together(self):
        table = table_of("hand idle write -> wait: put")
        ways = list(itertools.product((B, ("b", "old")), repeat=2))
        for many in (3, 4):
            for counts in itertools.product(COUNTS, repeat=many):
                pairs = [(config("look", to=way), count) for way, count in zip(ways, counts)]
                added = "any" if set(counts) == {"any"} else "some"
                behind = shape((config("wait", "last"), "one"), (config("look", to=(("b", "old"),) * 2), added),
                               mark="old")
                self.check_word(table, shape((config(), "one"), *pairs), ("ask", config(), "write"), behind)


if __name__ == "__main__":
    unittest.main()

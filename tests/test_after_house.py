"""What the house makes of a shape as it gets a letter: the rows by the other sharers, its acts, the breaks."""

import itertools
import unittest

from copyclerk.after import after
from copyclerk.shapes import start_shape
from tests.aftercase import COUNTS, MARKS, AfterCase
from tests.builders import config, shape, table_of
from tests.samples import EXAMPLE

GO = ("go", "bare")
A = ("a", "bare")
B = ("b", "last")


class HouseCase(AfterCase):
    """The letter go has the table's one row, and the picked line, in idle, is the only one that has it."""

    def check(self, rows, rest, *wanted, picked=config(back=(GO,)), count="one", **house):
        table = table_of(*rows)
        with self.subTest(rows=rows, rest=rest, picked=picked):
            self.check_word(table, shape((picked, count), *rest, **house), ("get", picked, 0), *wanted)


class Rows(HouseCase):
    ANY = ("house home go any -> out: share",)
    LAST = ("house home go last -> out",)
    MORE = ("house home go more -> busy",)
    BOTH = LAST + MORE

    def came(self, *rest, state="out", flags=0):
        return shape((config(flags=flags), "one"), *rest, state=state)

    def test_no_row(self):
        for count in COUNTS:
            rest = ((config("look", flags=1), count),)
            self.check((), rest, "norow")
            self.check(("house out go any -> out", "house home a any -> out"), rest, "norow")
        self.check((), (), "norow")

    def test_a_row_of_any(self):
        for flags, count in itertools.product(range(4), COUNTS):
            rest = ((config("look", flags=flags), count),)
            self.check(self.ANY, rest, self.came(*rest, flags=1))
        self.check(self.ANY, (), self.came(flags=1))

    def test_other_sharers_lack(self):
        self.check(self.BOTH, (), self.came())
        self.check(self.LAST, (), self.came())
        self.check(self.MORE, (), "norow")
        for flags, count in itertools.product((0, 2), COUNTS):
            rest = ((config("look", flags=flags), count),)
            self.check(self.BOTH, rest, self.came(*rest))
            self.check(self.LAST, rest, self.came(*rest))
            self.check(self.MORE, rest, "norow")

    def test_another_sharer_that_is_surely_there(self):
        for flags, count in itertools.product((1, 3), ("one", "some")):
            rest = ((config("look", flags=flags), count),)
            self.check(self.BOTH, rest, self.came(*rest, state="busy"))
            self.check(self.LAST, rest, "norow")
            self.check(self.MORE, rest, self.came(*rest, state="busy"))

    def test_one_that_is_surely_there_among_those_of_count_any(self):
        for count, other in itertools.product(("one", "some"), COUNTS):
            rest = ((config("look", flags=1), "any"), (config("wait", flags=1), count),
                    (config("wait", flags=3), other), (config("wait"), "any"))
            self.check(self.BOTH, rest, self.came(*rest, state="busy"))
            self.check(self.LAST, rest, "norow")

    def test_another_sharer_of_count_any(self):
        for flags in (1, 3):
            other, idle = config("look", flags=flags), (config("wait", flags=2), "any")
            rest = ((other, "any"), idle)
            last, more = self.came(idle), self.came((other, "some"), idle, state="busy")
            self.check(self.BOTH, rest, last, more)
            self.check(self.LAST, rest, last, "norow")
            self.check(self.MORE, rest, "norow", more)

    def test_several_other_sharers_of_count_any_each_on_its_own(self):
        one, two, three = config("look", flags=1), config("wait", flags=1), config("look", flags=3)
        rest = ((one, "any"), (two, "any"), (three, "any"), (config("wait"), "one"))
        last = self.came((config("wait"), "one"))
        more = [self.came(*[(each, "some" if each == sure else count) for each, count in rest], state="busy")
                for sure in (one, two, three)]
        self.check(self.BOTH, rest, last, *more)
        self.check(self.LAST, rest, last, "norow")
        self.check(self.MORE, rest, "norow", *more)

    def test_the_picked_line_is_no_other_sharer(self):
        for flags in (1, 3):
            self.check(self.BOTH, (), self.came(flags=flags), picked=config(back=(GO,), flags=flags))

    def test_the_rest_of_the_picked_config_is(self):
        for flags, count in itertools.product((1, 3), ("some", "any")):
            one = config(back=(GO,), flags=flags)
            last, more = self.came(flags=flags), self.came((one, "some"), flags=flags, state="busy")
            self.check(self.BOTH, (), last, more, picked=one, count=count)
            self.check(self.LAST, (), last, "norow", picked=one, count=count)
            self.check(self.MORE, (), "norow", more, picked=one, count=count)

    def test_the_rest_of_the_picked_config_without_shares_is_not(self):
        for flags, count in itertools.product((0, 2), ("some", "any")):
            one = config(back=(GO,), flags=flags)
            self.check(self.BOTH, (), self.came((one, "any"), flags=flags), picked=one, count=count)

    def test_each_way_does_its_own_acts(self):
        rows = ("house home go last -> out: keep, own", "house home go more -> busy: forget, others b value")
        other = config("look", flags=1)
        picked = config(back=(("go", "old"),), flags=1)
        last = shape((config(flags=3), "one"), state="out", mark="old")
        more = shape((config(), "one"), (config("look", to=(B,), flags=1), "some"), state="busy")
        self.check(rows, ((other, "any"),), last, more, picked=picked)

    def test_who_shares_is_asked_ahead_of_the_acts(self):
        rows = ("house home go last -> out: clear", "house home go more -> busy: clear")
        rest = ((config("look", flags=1), "one"),)
        self.check(rows, rest, shape((config(), "one"), (config("look"), "one"), state="busy"))


class HouseActs(HouseCase):
    """Acts about the picked line, the store and the house."""

    def check_acts(self, acts, one, behind, letter="bare", mark="last", behind_mark=None):
        """One and behind are the letters to the hand and the flags."""
        before = config("idle", "old", one[0], (("go", letter),), one[1])
        wanted = behind if isinstance(behind, str) else shape(
            (config("idle", "old", behind[0], (), behind[1]), "one"), state="out", mark=behind_mark or mark)
        self.check((f"house home go any -> out: {acts}",), (), wanted, picked=before, mark=mark)

    def test_without_acts(self):
        for mark, flags in itertools.product(MARKS, range(4)):
            before = config("look", "last", (B,), (GO, A), flags)
            behind = shape((config("look", "last", (B,), (A,), flags), "one"), state="busy", mark=mark)
            self.check(("house home go any -> busy",), (), behind, picked=before, mark=mark)

    def test_keep(self):
        for mark, (letter, kept) in itertools.product(MARKS, (("bare", "none"), ("last", "last"), ("old", "old"))):
            self.check_acts("keep", ((), 1), ((), 1), letter, mark, kept)

    def test_send(self):
        for mark, borne in (("none", "bare"), ("last", "last"), ("old", "old")):
            for ahead in ((), (A,)):
                self.check_acts("send b value", (ahead, 0), (ahead + (("b", borne),), 0), mark=mark)
                self.check_acts("send b bare", (ahead, 0), (ahead + (("b", "bare"),), 0), mark=mark)
        self.check_acts("send b value, send a bare", ((), 0), ((B, A), 0))

    def test_send_upon_a_full_way(self):
        self.check_acts("send b value", ((A, A), 0), "full")
        self.check_acts("send b value, send b value", ((A,), 0), "full")
        self.check_acts("own, send b value, clear", ((A, B), 0), "full")

    def test_own_share_forget_clear(self):
        for flags in range(4):
            self.check_acts("own", ((), flags), ((), flags | 2))
            self.check_acts("share", ((), flags), ((), flags | 1))
            self.check_acts("own, share", ((), flags), ((), 3))
            for act in ("forget", "clear"):
                self.check_acts(act, ((), flags), ((), 0))
                self.check_acts(f"{act}, share", ((), flags), ((), 1))
                self.check_acts(f"own, {act}", ((), flags), ((), 0))

    def test_stay(self):
        for acts, kept in (("stay", "last"), ("keep, stay", "old"), ("stay, keep", "old")):
            one = config(back=(("go", "old"), A))
            self.check((f"house home go any -> out: {acts}",), (), shape((one, "one"), state="out", mark=kept),
                       picked=one)

    def test_an_order_that_matters(self):
        self.check_acts("keep, send b value", ((), 0), (((("b", "old")),), 0), "old", "last", "old")
        self.check_acts("send b value, keep", ((), 0), ((B,), 0), "old", "last", "old")
        self.check_acts("keep, send b value", ((), 0), ((("b", "bare"),), 0), "bare", "last", "none")
        self.check_acts("own, owner b bare", ((), 0), ((("b", "bare"),), 2))
        self.check_acts("owner b bare, own", ((), 0), ((), 2))
        self.check_acts("owner b bare, forget", ((), 2), ((("b", "bare"),), 0))
        self.check_acts("forget, owner b bare", ((), 2), ((), 0))

    def test_owner_goes_to_the_picked_line_where_it_owns(self):
        for flags in range(4):
            behind = (B,) if flags in (2, 3) else ()
            self.check_acts("owner b value", ((), flags), (behind, flags))
            self.check_acts("owner b value", ((A, A), flags), "full" if behind else ((A, A), flags))

    def test_others_never_goes_to_the_picked_line(self):
        for flags in range(4):
            self.check_acts("others b value", ((), flags), ((), flags))
            self.check_acts("share, others b value", ((A, A), flags), ((A, A), flags | 1))


class Rest(HouseCase):
    """Acts upon the configs of the rest."""

    def check_rest(self, acts, rest, *behinds, flags=0, mark="last", came=None):
        """Each of behinds is a fault, or what the rest is behind it."""
        came = came or config(flags=flags)
        wanted = [behind if isinstance(behind, str) else shape((came, "one"), *behind, state="out", mark=mark)
                  for behind in behinds]
        self.check((f"house home go any -> out: {acts}",), rest, *wanted, picked=config(back=(GO,), flags=flags),
                   mark=mark)

    def test_who_gets_it(self):
        for count, flags in itertools.product(COUNTS, range(4)):
            rest = ((config("look", "old", (), (A,), flags), count),)
            reached = ((config("look", "old", (B,), (A,), flags), count),)
            self.check_rest("owner b value", rest, reached if flags in (2, 3) else rest)
            self.check_rest("others b value", rest, reached if flags in (1, 3) else rest)
            self.check_rest("send b value", rest, rest, came=config(to=(B,)))

    def test_none_one_and_two_letters_on_the_way(self):
        for word, flags, count in (("owner", 2, "one"), ("owner", 3, "some"), ("others", 1, "one"),
                                   ("others", 3, "some")):
            for to in ((), (A,)):
                self.check_rest(f"{word} b value", ((config("look", to=to, flags=flags), count),),
                                ((config("look", to=to + (B,), flags=flags), count),))
            self.check_rest(f"{word} b value", ((config("look", to=(A, A), flags=flags), count),), "full")

    def test_full_by_those_of_count_any(self):
        for word, flags in (("owner", 2), ("owner", 3), ("others", 1), ("others", 3)):
            full, room = config("look", to=(A, B), flags=flags), config("wait", to=(A,), flags=flags)
            self.check_rest(f"{word} b value", ((full, "any"),), "full", ())
            for count in COUNTS:
                reached = (config("wait", to=(A, B), flags=flags), count)
                self.check_rest(f"{word} b value", ((full, "any"), (room, count)), "full", (reached,))
                # What the other one would be with a letter more is full itself.
                both = ((full, "any"), reached)
                self.check_rest(f"{word} b value", both, *(["full", ()] if count == "any" else ["full"]))

    def test_one_surely_there_wherever_it_is_sorted(self):
        for states in (("idle", "wait"), ("wait", "idle")):
            rest = [(config(state, "old", (A, A), (), 1), count) for state, count in zip(states, ("any", "some"))]
            self.check_rest("others b bare", tuple(rest), "full")

    def test_the_acts_go_on_behind_a_full_of_count_any(self):
        full, room = config("look", to=(A, A), flags=1), config("wait", flags=1)
        self.check_rest("others b value, own, others a bare", ((full, "any"), (room, "one")), "full",
                        ((config("wait", to=(B, A), flags=1), "one"),), came=config(flags=2))
        self.check_rest("others b value, others b value, others b value", ((room, "any"),), "full", ())
        self.check_rest("others b value, others b value, others b value", ((room, "one"),), "full")
        self.check_rest("clear, others b value", ((full, "one"),), ((config("look", to=(A, A)), "one"),))

    def test_a_sharer_that_a_way_takes_as_sure_breaks_it(self):
        rows = ("house home go last -> out", "house home go more -> busy: others b value")
        full, room = config("look", to=(A, A), flags=1), config("wait", flags=1)
        last = shape((config(), "one"), state="out")
        reached = config("wait", to=(B,), flags=1)
        self.check(rows, ((full, "any"),), last, "full")
        self.check(rows, ((room, "any"),), last, shape((config(), "one"), (reached, "some"), state="busy"))
        # With the full one sure the way ends there; with the other one sure it is left out.
        self.check(rows, ((full, "any"), (room, "any")), last, "full",
                   shape((config(), "one"), (reached, "some"), state="busy"))

    def test_full_that_does_not_get_it_is_none(self):
        for count in COUNTS:
            rest = ((config("look", to=(A, A), flags=2), count), (config("look", to=(A, A)), count))
            self.check_rest("others b bare", rest, rest)
            rest = ((config("look", to=(A, A), flags=1), count), (config("look", to=(A, A)), count))
            self.check_rest("owner b bare", rest, rest)

    def test_full_by_the_picked_line_beside_those_of_count_any(self):
        picked = config(to=(A, A), back=(GO,), flags=2)
        rest = ((config("look", to=(A, A), flags=2), "any"),)
        self.check(("house home go any -> out: owner b bare",), rest, "full", picked=picked)
        self.check(("house home go any -> out: owner b bare",), (), "full", picked=picked, count="some")

    def test_the_rest_of_the_picked_config(self):
        rows = ("house home go any -> out: others b value",)
        for count in ("some", "any"):
            one = config(back=(GO,), flags=1)
            behind = shape((config(flags=1), "one"), (config(to=(B,), back=(GO,), flags=1), "any"), state="out")
            self.check(rows, (), behind, picked=one, count=count)
            one = config(to=(A, A), back=(GO,), flags=1)
            behind = shape((config(to=(A, A), flags=1), "one"), state="out")
            self.check(rows, (), "full", behind, picked=one, count=count)
        self.check(rows, (), behind, picked=one)

    def test_the_stores_mark_by_then(self):
        rest = ((config("look", flags=1), "some"),)
        for acts, letter in (("keep, others b value", "old"), ("others b value, keep", "last")):
            picked = config(back=(("go", "old"),))
            behind = shape((config(), "one"), (config("look", to=(("b", letter),), flags=1), "some"), state="out",
                           mark="old")
            self.check((f"house home go any -> out: {acts}",), rest, behind, picked=picked)
        for mark, letter in (("none", "bare"), ("last", "last"), ("old", "old")):
            for load, borne in (("value", letter), ("bare", "bare")):
                reached = config("look", to=(("b", borne),), flags=1)
                self.check_rest(f"others b {load}", rest, ((reached, "some"),), mark=mark)

    def test_clear(self):
        for count, flags in itertools.product(COUNTS, range(4)):
            rest = ((config("look", "old", (A,), (B,), flags), count),)
            self.check_rest("clear", rest, ((config("look", "old", (A,), (B,), 0), count),), flags=flags,
                            came=config())
        self.check_rest("forget", ((config("look", flags=3), "any"),), ((config("look", flags=3), "any"),), flags=3,
                        came=config())

    def test_clear_ahead_of_a_letter_to_all(self):
        rest = ((config("look", flags=3), "some"),)
        for word in ("owner", "others"):
            self.check_rest(f"clear, {word} b value", rest, ((config("look"), "some"),), came=config())
            self.check_rest(f"{word} b value, clear", rest, ((config("look", to=(B,)), "some"),), came=config())

    def test_configs_that_fall_together_by_clear(self):
        for count, other in itertools.product(COUNTS, repeat=2):
            added = "any" if (count, other) == ("any", "any") else "some"
            for flags, its in itertools.combinations(range(4), 2):
                rest = ((config("look", flags=flags), count), (config("look", flags=its), other))
                self.check_rest("clear", rest, ((config("look"), added),))

    def test_four_configs_that_fall_together(self):
        for counts in itertools.product(COUNTS, repeat=4):
            rest = tuple((config("look", flags=flags), count) for flags, count in enumerate(counts))
            added = "any" if set(counts) == {"any"} else "some"
            self.check_rest("clear", rest, ((config("look"), added),))

    def test_the_picked_line_falls_together_with_the_rest(self):
        for count in COUNTS:
            self.check(("house home go any -> out: clear",), ((config(flags=3), count),),
                       shape((config(), "some"), state="out"))
            self.check(("house home go any -> out: share",), ((config(flags=1), count),),
                       shape((config(flags=1), "some"), state="out"))


class Breaks(AfterCase):
    def test_clash_beside_the_shape_that_has_come(self):
        table = table_of("hand idle write -> mine")
        word = ("ask", config(), "write")
        for count in COUNTS:
            for state, breaks in (("look", True), ("mine", True), ("wait", False)):
                other = (config(state, "last"), count)
                wanted = [shape((config("mine"), "one"), other)] + ["clash"] * breaks
                self.check_word(table, shape((config(), "one"), other), word, *wanted)
        self.check_word(table, shape((config(), "some")), word, shape((config(), "any"), (config("mine"), "one")))

    def test_clash_by_lines_that_did_nothing(self):
        table = table_of("hand idle read -> wait")
        self.check_word(table, shape((config(), "one"), (config("mine"), "any")), ("ask", config(), "read"),
                        shape((config("wait"), "one"), (config("mine"), "any")), "clash")

    def test_no_clash_by_those_that_went_out_of_it(self):
        table = table_of("hand mine drop -> idle", "hand look drop -> mine")
        both = shape((config("look"), "one"), (config("mine"), "one"))
        self.check_word(table, both, ("ask", config("mine"), "drop"), shape((config(), "one"), (config("look"), "one")))
        self.check_word(table, both, ("ask", config("look"), "drop"), shape((config("mine"), "some")), "clash")

    def test_clash_by_one_way_alone(self):
        table = table_of("house home go last -> out", "house home go more -> busy")
        one, other = config(back=(GO,)), config("mine", flags=1)
        self.check_word(table, shape((one, "one"), (other, "any")), ("get", one, 0), "clash",
                        shape((config(), "one"), state="out"),
                        shape((config(), "one"), (other, "some"), state="busy"))

    def test_clash_and_full(self):
        table = table_of("house home go any -> home: others b bare")
        one, full, mine = config(back=(GO,)), config("wait", to=(A, A), flags=1), config("mine")
        self.check_word(table, shape((one, "one"), (full, "any"), (mine, "any")), ("get", one, 0), "full", "clash",
                        shape((config(), "one"), (mine, "any")))

    def test_no_clash_where_the_deed_breaks(self):
        table = table_of("hand idle write -> mine: tell", "hand idle read -> mine: send b bare")
        one = config(back=(A, A))
        self.check_word(table, shape((one, "some"), (config("mine"), "any")), ("ask", one, "write"), "old")
        self.check_word(table, shape((one, "some"), (config("mine"), "any")), ("ask", one, "read"), "full")


class TheList(AfterCase):
    TABLE = table_of("hand idle write -> wait: send get bare", "hand wait give -> mine: keep, put",
                     "hand mine drop -> idle: send back value, lose", "house home get any -> out: own, send give value",
                     "house out get any -> out: wait", "house out back any -> home: keep, clear")

    def test_the_whole_list(self):
        asks, waits = config("wait", back=(("get", "bare"),)), config("wait", to=(("give", "last"),), flags=2)
        mine, gone = config("mine", "last", flags=2), config("idle", "none", (), (("back", "last"),), 2)
        idle = config()
        self.assertEqual(self.told(self.TABLE, start_shape(self.TABLE)), [
            (("ask", idle, "write"), "", ("home", "last", ((idle, "any"), (asks, "one"))))])
        self.assertEqual(self.told(self.TABLE, shape((idle, "any"), (asks, "some"))), [
            (("ask", idle, "write"), "", ("home", "last", ((idle, "any"), (asks, "some")))),
            (("get", asks, 0), "", ("out", "last", ((idle, "any"), (asks, "any"), (waits, "one"))))])
        self.assertEqual(self.told(self.TABLE, shape((idle, "any"), (asks, "any"), (waits, "one"), state="out")), [
            (("ask", idle, "write"), "", ("out", "last", ((idle, "any"), (asks, "some"), (waits, "one")))),
            (("take", waits, 0), "", ("out", "old", ((idle, "any"), (mine, "one"), (asks, "any"))))])
        self.assertEqual(self.told(self.TABLE, shape((idle, "any"), (mine, "one"), state="out", mark="old")), [
            (("ask", idle, "write"), "", ("out", "old", ((idle, "any"), (mine, "one"), (asks, "one")))),
            (("ask", mine, "drop"), "", ("out", "old", ((idle, "any"), (gone, "one"))))])
        again = config("wait", "none", (), (("back", "last"), ("get", "bare")), 2)
        self.assertEqual(self.told(self.TABLE, shape((gone, "one"), state="out", mark="old")), [
            (("ask", gone, "write"), "", ("out", "old", ((again, "one"),))),
            (("get", gone, 0), "", ("home", "last", ((idle, "one"),)))])
        self.assertEqual(self.TABLE[2], EXAMPLE[2])

    def test_sorted_by_word_fault_and_shape(self):
        table = table_of("hand idle write -> idle", "hand idle read -> mine", "hand idle drop -> idle: tell",
                         "hand look read -> look", "hand idle a -> idle", "house home a last -> home",
                         "house home b any -> out")
        idle, other, shares = config(to=(A, A), back=(A, A)), config("look", back=(B, A)), config("look", flags=1)
        found = self.told(table, shape((idle, "any"), (other, "any"), (shares, "any")), False)
        self.assertEqual([(word[0], word[1], word[2], fault) for word, fault, behind in found], [
            ("ask", idle, "drop", "old"), ("ask", idle, "read", ""), ("ask", idle, "read", "clash"),
            ("ask", idle, "write", ""), ("ask", shares, "read", ""), ("ask", other, "read", ""),
            ("get", idle, 0, ""), ("get", idle, 0, "norow"), ("get", idle, 1, ""), ("get", idle, 1, "norow"),
            ("get", other, 0, ""), ("get", other, 1, ""), ("get", other, 1, "norow"),
            ("take", idle, 0, ""), ("take", idle, 1, "")])

    def test_shapes_of_one_word_sorted(self):
        table = table_of("house home a last -> out", "house home a more -> home")
        one, two, three = config(back=(A,)), config("look", flags=1), config("wait", flags=3)
        found = self.told(table, shape((one, "one"), (two, "any"), (three, "any")))
        self.assertEqual([behind for word, fault, behind in found], [
            shape((config(), "one"), (two, "any"), (three, "some")),
            shape((config(), "one"), (two, "some"), (three, "any")),
            shape((config(), "one"), state="out")])

    def test_each_once(self):
        # Both ways of more lack a row, and both sends are too many for one of count any.
        table = table_of("house home go last -> out: others b bare",
                         "house home a any -> out: others b bare, others b bare")
        one = config(back=(GO,))
        sharers = [(config("look", flags=1), "any"), (config("wait", flags=3), "any")]
        found = self.told(table, shape((one, "one"), *sharers))
        self.assertEqual([fault for word, fault, behind in found], ["", "norow"])
        one = config(back=(A,))
        crowded = [(config("look", to=(A, A), flags=1), "any"), (config("wait", to=(A,), flags=3), "any")]
        found = self.told(table, shape((one, "one"), *crowded))
        self.assertEqual(found[:2], [(("get", one, 0), "", shape((config(), "one"), state="out")),
                                     (("get", one, 0), "full", ())])
        self.assertEqual({word[0] for word, fault, behind in found[2:]}, {"take"})

    def test_one_shape_by_two_ways_is_told_once(self):
        table = table_of("house home go last -> out: clear", "house home go more -> out: clear")
        one = config(back=(GO,))
        sharers = [(config("look", flags=1), "any"), (config("look", flags=3), "any")]
        found = self.told(table, shape((one, "one"), *sharers))
        self.assertEqual([behind for word, fault, behind in found], [
            shape((config(), "one"), state="out"), shape((config(), "one"), (config("look"), "some"), state="out")])

    def test_the_list_told_is_the_askers_own(self):
        within = shape((config(), "any"), (config("wait", back=(("get", "bare"),)), "some"))
        first = after(self.TABLE, within)
        kept = list(first)
        first.append("gone")
        first.reverse()
        self.assertEqual(after(self.TABLE, within), kept)
        after(self.TABLE, within).clear()
        self.assertEqual(after(self.TABLE, within), kept)


if __name__ == "__main__":
    unittest.main()

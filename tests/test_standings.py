import copy
import itertools
import unittest

from copyclerk.standings import clash, renamed, start, thinned
from tests.builders import StepCase, line, standing
from tests.samples import EXAMPLE

FORTY = 10 ** 40 - 1


class Start(StepCase):
    def test_no_hands(self):
        self.assertEqual(start(EXAMPLE, 0), ("home", (0, 0), (0, 0), ()))

    def test_one_hand(self):
        self.assertEqual(start(EXAMPLE, 1), ("home", (0, 0), (0, 0), (("idle", None, 0, (), (), 0),)))

    def test_more_hands(self):
        first = ("idle", None, 0, (), (), 0)
        self.assertEqual(start(EXAMPLE, 3), ("home", (0, 0), (0, 0), (first, first, first)))
        for many in range(21):
            self.assertEqual(start(EXAMPLE, many), ("home", (0, 0), (0, 0), (first,) * many))

    def test_the_first_states_are_those_told_first(self):
        table = ((("zoo", "write"), ("ape", "none")), ("yard", "barn"), ())
        self.assertEqual(start(table, 2), ("yard", (0, 0), (0, 0), (("zoo", None, 0, (), (), 0),) * 2))

    def test_kinds(self):
        for many in (0, 1, 4):
            self.check_standing(start(EXAMPLE, many))

    def test_the_table_stays(self):
        table = copy.deepcopy(EXAMPLE)
        start(table, 2)
        self.assertEqual(table, EXAMPLE)


class Clash(unittest.TestCase):
    # Two states of each right, so that two lines may have one right in unlike states.
    TABLE = (
        (("na", "none"), ("nb", "none"), ("ra", "read"), ("rb", "read"), ("wa", "write"), ("wb", "write")),
        ("ra", "wa"), (),
    )

    def check(self, states, wanted):
        before = standing(*[line(state) for state in states])
        kept = copy.deepcopy(before)
        with self.subTest(states=states):
            self.assertIs(clash(self.TABLE, before), wanted)
            self.assertEqual(before, kept)

    def test_no_lines(self):
        self.check((), False)

    def test_one_line_alone(self):
        for state, right in self.TABLE[0]:
            self.check((state,), False)

    def test_two_lines(self):
        self.check(("wa", "wb"), True)
        self.check(("wa", "wa"), True)
        self.check(("wa", "ra"), True)
        self.check(("ra", "wa"), True)
        self.check(("wa", "na"), False)
        self.check(("na", "wa"), False)
        self.check(("ra", "rb"), False)
        self.check(("ra", "ra"), False)
        self.check(("ra", "na"), False)
        self.check(("na", "nb"), False)

    def test_lines_that_do_not_lie_side_by_side(self):
        self.check(("wa", "na", "wb"), True)
        self.check(("ra", "na", "nb", "wb"), True)
        self.check(("wb", "na", "nb", "ra"), True)
        self.check(("na", "na", "wb", "nb"), False)
        self.check(("ra", "na", "rb", "ra"), False)

    def test_all_pairs_of_lines_count(self):
        rights = dict(self.TABLE[0])
        for states in itertools.product(rights, repeat=3):
            pairs = itertools.combinations([rights[state] for state in states], 2)
            wanted = any(pair in (("write", "write"), ("write", "read"), ("read", "write")) for pair in pairs)
            self.check(states, wanted)

    def test_twenty_lines(self):
        self.check(("ra",) * 20, False)
        self.check(("ra",) * 19 + ("wa",), True)
        self.check(("na",) * 19 + ("wa",), False)
        self.check(("wa",) + ("na",) * 18 + ("wa",), True)

    def test_the_house_and_flags_and_letters_do_not_matter(self):
        lines = (line("wa", flags=2), line("na", (1, 4), 3, (("wa", None),), (("ra", (1, 4)),), 3))
        self.assertIs(clash(self.TABLE, standing(*lines, state="wa", last=(1, 4))), False)


class Renamed(StepCase):
    A = line("idle", (1, 5), 5, (("a", None),), (("b", (1, 5)), ("c", None)), 1)
    B = line("look", None, -7, (), (("d", None),), 2)
    C = line("mine", (2, FORTY), FORTY, (("e", (0, 0)), ("f", None)), (), 3)

    def check(self, order, lines):
        before = standing(self.A, self.B, self.C, state="out", store=None, last=(2, FORTY))
        kept = copy.deepcopy((before, order))
        told = renamed(before, order)
        self.assertEqual(told, ("out", None, (2, FORTY), lines))
        self.check_standing(told)
        self.assertEqual((before, order), kept)

    def test_each_order_of_three(self):
        self.check([0, 1, 2], (self.A, self.B, self.C))
        self.check([0, 2, 1], (self.A, self.C, self.B))
        self.check([1, 0, 2], (self.B, self.A, self.C))
        self.check([2, 1, 0], (self.C, self.B, self.A))

    def test_orders_that_move_every_hand(self):
        # Line k is that of the hand named at place k; the other way round these two would be exchanged.
        self.check([1, 2, 0], (self.B, self.C, self.A))
        self.check([2, 0, 1], (self.C, self.A, self.B))

    def test_no_hands_and_one(self):
        self.assertEqual(renamed(standing(store=(3, 1), last=(4, 2)), []), ("home", (3, 1), (4, 2), ()))
        self.assertEqual(renamed(standing(self.B), [0]), ("home", (0, 0), (0, 0), (self.B,)))

    def test_renamed_twice(self):
        before = standing(self.A, self.B, self.C, line(), last=(9, 9))
        for order in itertools.permutations(range(4)):
            back = [order.index(hand) for hand in range(4)]
            self.assertEqual(renamed(renamed(before, list(order)), back), before)

    def test_a_changed_order_changes_no_answer(self):
        order = [1, 0, 2]
        told = renamed(standing(self.A, self.B, self.C), order)
        order.reverse()
        self.assertEqual(told[3], (self.B, self.A, self.C))


class Thinned(StepCase):
    def check(self, before, behind):
        kept = copy.deepcopy(before)
        told = thinned(before)
        self.assertEqual(told, behind)
        self.check_standing(told)
        self.assertEqual(before, kept)
        # What is thin already stays as it is.
        self.assertEqual(thinned(told), behind)

    def test_no_hands(self):
        self.check(standing(), ("home", (1, 0), (1, 0), ()))
        self.check(standing(store=None), ("home", None, (1, 0), ()))

    def test_the_start(self):
        for many in (0, 1, 3):
            self.check(start(EXAMPLE, many), ("home", (1, 0), (1, 0), (line(),) * many))

    def test_the_store(self):
        self.check(standing(state="out", store=(3, 8), last=(3, 8)), ("out", (1, 0), (1, 0), ()))
        self.check(standing(state="out", store=(2, 8), last=(3, 8)), ("out", (0, 0), (1, 0), ()))
        self.check(standing(state="out", store=(1, 0), last=(3, 8)), ("out", (0, 0), (1, 0), ()))
        self.check(standing(state="out", store=(0, 0), last=(3, 8)), ("out", (0, 0), (1, 0), ()))
        self.check(standing(state="out", store=None, last=(3, 8)), ("out", None, (1, 0), ()))

    def test_versions_count_and_numbers_do_not(self):
        self.check(standing(store=(3, 8), last=(3, 9)), ("home", (1, 0), (1, 0), ()))
        self.check(standing(store=(2, 9), last=(3, 9)), ("home", (0, 0), (1, 0), ()))
        self.check(standing(store=(4, 9), last=(3, 9)), ("home", (0, 0), (1, 0), ()))

    def test_values_of_lines(self):
        values = ((5, 1), (4, 1), (0, 0), (1, 0), None)
        before = standing(*[line("look", value) for value in values], last=(5, 1))
        thin = ((1, 0), (0, 0), (0, 0), (0, 0), None)
        self.check(before, ("home", (0, 0), (1, 0), tuple(line("look", value) for value in thin)))

    def test_letters_of_both_ways(self):
        way = (("a", (5, 1)), ("b", (4, 1)))
        thin = (("a", (1, 0)), ("b", (0, 0)))
        bare = (("c", None), ("d", (5, 1)))
        thin_bare = (("c", None), ("d", (1, 0)))
        before = standing(line(to=way, back=bare), line(to=bare, back=way), line(to=way[1:], back=way[:1]),
                          last=(5, 1))
        self.check(before, ("home", (0, 0), (1, 0), (
            line(to=thin, back=thin_bare), line(to=thin_bare, back=thin), line(to=thin[1:], back=thin[:1]))))

    def test_wants(self):
        wants = (0, 1, -1, 17, FORTY, -FORTY)
        before = standing(*[line(want=want) for want in wants])
        self.check(before, ("home", (1, 0), (1, 0), (line(),) * 6))

    def test_states_and_flags_stay(self):
        before = standing(*[line("mine", None, 4, flags=flags) for flags in range(4)], state="busy")
        self.check(before, ("busy", (1, 0), (1, 0), tuple(line("mine", flags=flags) for flags in range(4))))

    def test_all_at_once(self):
        before = standing(
            line("mine", (2, FORTY), FORTY, (("give", (2, FORTY)),), (("back", (1, -4)), ("ack", None)), 2),
            line("idle", (1, -4), -4, (("call", None),), (), 1),
            state="busy", store=(1, -4), last=(2, FORTY))
        self.check(before, ("busy", (0, 0), (1, 0), (
            line("mine", (1, 0), 0, (("give", (1, 0)),), (("back", (0, 0)), ("ack", None)), 2),
            line("idle", (0, 0), 0, (("call", None),), (), 1))))


if __name__ == "__main__":
    unittest.main()

import copy
import itertools
import unittest

from copyclerk.tabletext import read_table, table_text
from tests.samples import ASKS, EXAMPLE, EXAMPLE_TEXT, HAND_ACTS, HOUSE_ACTS, TABLE_WORDS

HANDS = (("idle", "none"), ("mine", "write"))
HOUSES = ("home", "out")


def hand_table(*rows):
    return (HANDS, HOUSES, rows)


class WrittenAndRead(unittest.TestCase):
    def check_parts(self, part):
        if type(part) is tuple:
            for inner in part:
                self.check_parts(inner)
        else:
            self.assertIs(type(part), str)

    def check(self, table, text=None):
        written = table_text(table)
        self.assertIs(type(written), str)
        if text is not None:
            self.assertEqual(written, text)
        told = read_table(written)
        self.assertEqual(told, table)
        self.check_parts(told)
        self.assertEqual(table_text(told), written)

    def test_the_example(self):
        self.check(EXAMPLE, EXAMPLE_TEXT)
        self.assertEqual(read_table(EXAMPLE_TEXT), EXAMPLE)

    def test_one_state_and_no_rows(self):
        self.check(((("a", "none"),), ("b",), ()), "hands a none\nhouses b")

    def test_eight_states(self):
        letters = "abcdefgh"
        hands = tuple((letter, "none") for letter in letters)
        text = ("hands a none, b none, c none, d none, e none, f none, g none, h none\n"
                "houses a, b, c, d, e, f, g, h")
        self.check((hands, tuple(letters), ()), text)
        rows = tuple(("hand", letter, "go", "a", ()) for letter in letters)
        rows += tuple(("house", letter, "go", "any", "h", ()) for letter in letters)
        self.check((hands, tuple(letters), rows))

    def test_each_number_of_states(self):
        letters = "abcdefgh"
        for many, more in itertools.product(range(1, 9), repeat=2):
            hands = tuple((letter, "write") for letter in letters[:many])
            self.check((hands, tuple(letters[:more]), ()))

    def test_words_of_one_and_of_eight_letters(self):
        for word in ("a", "z", "abcdefgh", "stuvwxyz", "ijklmnop", "qrst", "zzzzzzzz"):
            with self.subTest(word=word):
                self.check((
                    ((word, "none"), ("x", "write")), ("y", word),
                    (("hand", word, word, "x", (("send", word, "bare"),)),
                     ("hand", "x", word, word, ()),
                     ("house", word, word, "any", "y", (("owner", word, "value"),)),
                     ("house", "y", word, "last", word, (("others", word, "bare"),))),
                ))

    def test_words_of_the_tables_themselves(self):
        for word in TABLE_WORDS:
            with self.subTest(word=word):
                kind = "xx" if word in ASKS else word
                self.check((
                    ((word, "none"), ("x", "write")), (word, "y"),
                    (("hand", word, word, word, ()),
                     ("hand", "x", word, word, (("send", kind, "bare"), ("send", kind, "value"))),
                     ("house", word, kind, "any", word, (("wait",),)),
                     ("house", "y", kind, "last", word, (("owner", kind, "bare"),)),
                     ("house", "y", kind, "more", word, (("others", kind, "value"),))),
                ))

    def test_texts_full_of_the_tables_words(self):
        text = "\n".join([
            "hands hands read, read read, house none",
            "houses houses, hand, any",
            "hand hands read -> read",
            "hand read house -> hands: keep, send keep value",
            "hand house hand -> house: send send bare, tell",
            "house any any any -> any: wait",
            "house hand wait last -> houses: send bare bare, owner value value, stay",
        ])
        table = (
            (("hands", "read"), ("read", "read"), ("house", "none")),
            ("houses", "hand", "any"),
            (("hand", "hands", "read", "read", ()),
             ("hand", "read", "house", "hands", (("keep",), ("send", "keep", "value"))),
             ("hand", "house", "hand", "house", (("send", "send", "bare"), ("tell",))),
             ("house", "any", "any", "any", "any", (("wait",),)),
             ("house", "hand", "wait", "last", "houses",
              (("send", "bare", "bare"), ("owner", "value", "value"), ("stay",)))),
        )
        self.check(table, text)

    def test_all_rights(self):
        self.check(((("a", "none"), ("b", "read"), ("c", "write")), ("d",), ()),
                   "hands a none, b read, c write\nhouses d")
        for rights in itertools.product(("none", "read", "write"), repeat=3):
            self.check((tuple(zip("abc", rights)), ("d",), ()))

    def test_rows_in_any_order(self):
        for rows in itertools.permutations(EXAMPLE[2]):
            self.check((EXAMPLE[0], EXAMPLE[1], rows))

    def test_each_event(self):
        for event in ASKS + ("give", "a", "abcdefgh"):
            self.check(hand_table(("hand", "mine", event, "idle", ())),
                       f"hands idle none, mine write\nhouses home, out\nhand mine {event} -> idle")

    def test_each_when(self):
        for when in ("any", "last", "more"):
            self.check(hand_table(("house", "out", "get", when, "home", ())),
                       f"hands idle none, mine write\nhouses home, out\nhouse out get {when} -> home")

    def test_each_act_of_a_hand(self):
        for act, event in itertools.product(HAND_ACTS, ASKS + ("give",)):
            if act == ("keep",) and event in ASKS:
                continue
            with self.subTest(act=act, event=event):
                self.check(hand_table(("hand", "idle", event, "mine", (act,))),
                           "hands idle none, mine write\nhouses home, out\n"
                           f"hand idle {event} -> mine: {' '.join(act)}")

    def test_each_act_of_the_house(self):
        for act, when in itertools.product(HOUSE_ACTS, ("any", "last", "more")):
            with self.subTest(act=act, when=when):
                self.check(hand_table(("house", "home", "get", when, "out", (act,))),
                           "hands idle none, mine write\nhouses home, out\n"
                           f"house home get {when} -> out: {' '.join(act)}")

    def test_a_row_that_waits(self):
        for state, after in itertools.product(HOUSES, repeat=2):
            self.check(hand_table(("house", state, "get", "any", after, (("wait",),))),
                       "hands idle none, mine write\nhouses home, out\n"
                       f"house {state} get any -> {after}: wait")

    def test_six_acts(self):
        self.check(hand_table(
            ("hand", "idle", "give", "mine", HAND_ACTS[:2] + HAND_ACTS[3:] + (("lose",),)),
            ("house", "home", "get", "last", "out", HOUSE_ACTS[:6]),
            ("house", "home", "get", "more", "out", HOUSE_ACTS[6:]),
        ))

    def test_the_same_act_up_to_six_times(self):
        for many in range(7):
            for act in HAND_ACTS:
                if act not in (("tell",), ("put",)):
                    self.check(hand_table(("hand", "idle", "give", "mine", (act,) * many)))
            for act in HOUSE_ACTS:
                self.check(hand_table(("house", "home", "get", "any", "out", (act,) * many)))

    def test_rows_that_may_stand_beside_one_another(self):
        self.check(hand_table(
            ("hand", "idle", "read", "idle", ()),
            ("hand", "idle", "write", "idle", ()),
            ("hand", "mine", "read", "idle", ()),
            ("hand", "idle", "get", "idle", ()),
            ("house", "home", "get", "last", "home", ()),
            ("house", "home", "get", "more", "home", ()),
            ("house", "out", "get", "any", "home", ()),
            ("house", "home", "give", "any", "home", ()),
            ("house", "out", "give", "more", "home", ()),
        ))

    def test_the_same_names_for_hands_and_house(self):
        self.check((
            (("home", "read"), ("out", "none")), ("out", "home"),
            (("hand", "home", "get", "out", ()), ("house", "home", "get", "any", "out", ())),
        ))

    def test_many_rows(self):
        kinds = ["".join(pair) for pair in itertools.product("abcdefghij", repeat=2)]
        rows = tuple(("hand", "idle", kind, "mine", ()) for kind in kinds)
        rows += tuple(("house", "home", kind, when, "out", (("stay",),))
                      for kind in kinds for when in ("last", "more"))
        self.check(hand_table(*rows))

    def test_nothing_handed_in_is_changed(self):
        table = copy.deepcopy(EXAMPLE)
        self.assertEqual(table_text(table), EXAMPLE_TEXT)
        self.assertEqual(table, EXAMPLE)
        first = read_table(EXAMPLE_TEXT)
        self.assertEqual(table_text(first), EXAMPLE_TEXT)
        self.assertEqual(read_table(EXAMPLE_TEXT), first)


if __name__ == "__main__":
    unittest.main()

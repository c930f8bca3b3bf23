"""What a plain store answers, and the first answer that is wrong."""

import copy
import itertools
import unittest

from copyclerk.store import first_wrong, plain

FIFTY = 10 ** 50 - 1


def wrote(number, hand=0):
    return ("wrote", hand, number)


def read(number, hand=0):
    return ("read", hand, number)


class PlainStore(unittest.TestCase):
    def check(self, answers, wrong):
        kept = copy.deepcopy(answers)
        with self.subTest(answers=answers):
            told = first_wrong(answers)
            self.assertEqual(told, wrong)
            self.assertIs(type(told), type(wrong))
            self.assertIs(plain(answers), wrong is None)
            self.assertEqual(answers, kept)

    def test_no_answers(self):
        self.check([], None)

    def test_reads_ahead_of_all_writes(self):
        self.check([read(0)], None)
        self.check([read(0), read(0, 3), read(0)], None)
        for number in (1, -1, 7, FIFTY, -FIFTY):
            self.check([read(number)], 0)
            self.check([read(0), read(0), read(number)], 2)
            self.check([read(number), wrote(number)], 0)

    def test_writes_alone_are_never_wrong(self):
        self.check([wrote(0)], None)
        self.check([wrote(5), wrote(-5), wrote(5), wrote(FIFTY)], None)

    def test_a_read_of_what_was_written_last(self):
        self.check([wrote(5), read(5)], None)
        self.check([wrote(5), read(5), read(5), wrote(6), read(6)], None)
        self.check([wrote(5), wrote(6), read(6)], None)
        self.check([wrote(5), wrote(0), read(0)], None)

    def test_a_read_of_what_was_written_ahead_of_that(self):
        self.check([wrote(5), wrote(6), read(5)], 2)
        self.check([wrote(5), read(5), wrote(6), read(5)], 3)
        self.check([wrote(5), wrote(6), wrote(5), read(5)], None)

    def test_a_read_of_nought_behind_a_write(self):
        self.check([wrote(5), read(0)], 1)
        self.check([read(0), wrote(5), read(0)], 2)
        self.check([wrote(5), read(5), read(0)], 2)

    def test_a_read_puts_nothing_there(self):
        self.check([read(3), read(3)], 0)
        self.check([wrote(2), read(3), read(3)], 1)

    def test_who_wrote_and_who_reads_does_not_matter(self):
        for one, two, three in itertools.product((0, 1, 19, 10 ** 30, FIFTY), repeat=3):
            self.check([wrote(4, one), read(4, two), wrote(9, three), read(9, one)], None)
            self.check([wrote(4, one), wrote(9, two), read(4, three)], 2)
            self.check([wrote(4, one), wrote(9, two), read(4, one)], 2)

    def test_the_hand_is_not_taken_for_the_number(self):
        self.check([wrote(3, 8), read(8, 3)], 1)
        self.check([wrote(3, 8), read(3, 3)], None)

    def test_long_numbers_and_numbers_below_nought(self):
        self.check([wrote(FIFTY), read(FIFTY)], None)
        self.check([wrote(FIFTY), read(FIFTY - 1)], 1)
        self.check([wrote(FIFTY), read(-FIFTY)], 1)
        self.check([wrote(-FIFTY), read(-FIFTY)], None)
        self.check([wrote(-1), read(-1), read(1)], 2)
        self.check([wrote(10 ** 49), read(10 ** 49 + 1)], 1)

    def test_the_first_of_several_wrong_reads(self):
        self.check([wrote(1), read(2), read(3), read(1), read(4)], 1)
        self.check([read(0), wrote(1), read(1), wrote(2), read(1), wrote(1), read(2)], 4)

    def test_it_is_numbered_among_all_answers(self):
        for many in range(12):
            self.check([wrote(1)] * many + [read(2)], many)
            self.check([wrote(1)] + [read(1)] * many + [read(2)], many + 1)

    def test_long_lists(self):
        good = [part for number in range(100) for part in (wrote(number), read(number, number))]
        self.check(good, None)
        self.check(good + [read(98)], 200)
        self.check(good + [read(99)], None)

    def test_all_short_lists(self):
        words = [wrote(0), wrote(1), read(0), read(1), read(2)]
        for many in range(5):
            for answers in itertools.product(words, repeat=many):
                self.check(list(answers), slow_first_wrong(answers))


def slow_first_wrong(answers):
    """By looking back from each read to the write ahead of it."""
    for place, (word, _, number) in enumerate(answers):
        ahead = [answer[2] for answer in answers[:place] if answer[0] == "wrote"]
        if word == "read" and number != ([0] + ahead)[-1]:
            return place
    return None


if __name__ == "__main__":
    unittest.main()

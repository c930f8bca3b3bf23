import unittest

from copyclerk.errors import BadPaper, BadTable, CopyError, NoDeed, NoRow


class Errors(unittest.TestCase):
    def test_copy_error_stands_straight_under_value_error(self):
        self.assertEqual(CopyError.__bases__, (ValueError,))

    def test_each_refusal_stands_straight_under_copy_error(self):
        for refusal in (BadTable, BadPaper, NoDeed, NoRow):
            with self.subTest(refusal=refusal.__name__):
                self.assertEqual(refusal.__bases__, (CopyError,))

    def test_no_refusal_stands_under_another_one(self):
        refusals = (BadTable, BadPaper, NoDeed, NoRow)
        for refusal in refusals:
            for other in refusals:
                with self.subTest(refusal=refusal.__name__, other=other.__name__):
                    self.assertEqual(issubclass(refusal, other), refusal is other)

    def test_the_field_number_is_set_when_made(self):
        for refusal in (BadTable, BadPaper):
            for number in (0, 1, 17):
                with self.subTest(refusal=refusal.__name__, number=number):
                    self.assertEqual(refusal(number).number, number)
                    self.assertIs(type(refusal(number).number), int)

    def test_all_are_raised_and_taken_as_copy_errors(self):
        for made in (BadTable(3), BadPaper(4), NoDeed(), NoRow(), NoDeed("words"), NoRow("words")):
            with self.subTest(made=repr(made)):
                with self.assertRaises(CopyError):
                    raise made


if __name__ == "__main__":
    unittest.main()

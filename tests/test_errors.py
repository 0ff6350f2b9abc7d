import unittest

from toll.errors import (
    NoFunction, NoPaper, NoProgram, NoRatio, NoRow, NoSize, NoTable, NoText, NoValue, TollError, TooMany,
)

REFUSALS = (NoText, NoProgram, NoFunction, NoValue, NoTable, NoRatio, NoPaper, NoSize, NoRow, TooMany)


class Errors(unittest.TestCase):
    def test_there_are_ten_refusals(self):
        self.assertEqual(len(set(REFUSALS)), 10)

    def test_each_stands_under_toll_error_and_value_error(self):
        self.assertTrue(issubclass(TollError, ValueError))
        for refusal in REFUSALS:
            with self.subTest(refusal.__name__):
                self.assertTrue(issubclass(refusal, TollError))
                self.assertTrue(issubclass(refusal, ValueError))
                self.assertNotEqual(refusal, TollError)

    def test_none_stands_under_another_one(self):
        for refusal in REFUSALS:
            for other in REFUSALS:
                if refusal is not other:
                    with self.subTest(refusal.__name__ + " " + other.__name__):
                        self.assertFalse(issubclass(refusal, other))

    def test_none_stands_under_an_error_of_python_below_value_error(self):
        for refusal in REFUSALS + (TollError,):
            self.assertFalse(issubclass(refusal, UnicodeError))
            self.assertFalse(issubclass(refusal, LookupError))

    def test_each_is_raised_with_words_and_taken_as_toll_error(self):
        for refusal in REFUSALS:
            with self.subTest(refusal.__name__):
                with self.assertRaises(TollError) as caught:
                    raise refusal("words")
                self.assertIs(caught.exception.__class__, refusal)

    def test_no_size_has_its_place(self):
        for at in (("f", 0), ("other", 12)):
            with self.assertRaises(NoSize) as caught:
                raise NoSize(at)
            self.assertEqual(caught.exception.at, at)
            self.assertIsInstance(str(caught.exception), str)

    def test_two_no_sizes_keep_their_own_places(self):
        first = NoSize(("f", 0))
        second = NoSize(("g", 1))
        self.assertEqual((first.at, second.at), (("f", 0), ("g", 1)))


if __name__ == "__main__":
    unittest.main()

import unittest

from quoteweave import errors

NAMES = ("BadRow", "Misplaced", "Twice", "NoName", "TooMany", "Unfinished")
REFUSALS = [getattr(errors, name) for name in NAMES]


class Errors(unittest.TestCase):
    def test_the_base_class_is_a_value_error(self):
        self.assertEqual(errors.WorldError.__bases__, (ValueError,))
        self.assertEqual(errors.WorldError("some words", 3).place, 3)

    def test_each_refusal_stands_straight_under_the_base_class(self):
        for refusal in REFUSALS:
            self.assertEqual(refusal.__bases__, (errors.WorldError,), refusal)

    def test_each_refusal_bears_its_own_place(self):
        for refusal in REFUSALS:
            made = [refusal("some words", place) for place in (0, 1, 2, 400, 999999999)]
            self.assertEqual([error.place for error in made], [0, 1, 2, 400, 999999999], refusal)

    def test_the_words_are_free(self):
        for refusal in REFUSALS:
            for words in ("", "some words", "100%", "{place}"):
                self.assertEqual(refusal(words, 7).place, 7)

    def test_each_refusal_is_a_world_error_and_a_value_error(self):
        for refusal in REFUSALS:
            error = refusal("some words", 1)
            self.assertIsInstance(error, errors.WorldError)
            self.assertIsInstance(error, ValueError)

    def test_no_refusal_is_of_another_ones_class(self):
        for refusal in REFUSALS:
            error = refusal("some words", 1)
            theirs = [other for other in REFUSALS if isinstance(error, other)]
            self.assertEqual(theirs, [refusal])

    def test_a_raised_refusal_is_taken_by_its_base_classes(self):
        for refusal in REFUSALS:
            for base in (refusal, errors.WorldError, ValueError):
                with self.assertRaises(base) as taken:
                    raise refusal("some words", 12)
                self.assertEqual(taken.exception.place, 12)


if __name__ == "__main__":
    unittest.main()

import unittest

from dialdoubt import errors
from dialdoubt.errors import (
    BadClock, Coarse, DoubtError, NoBack, NoHand, NoMark, NoRow, NoSuch, NoText, TooAlike,
)

WITH_TEXT = [BadClock, TooAlike, NoHand, NoSuch, NoMark, NoRow, NoBack]
WITH_FIELD = [(Coarse, "step"), (NoText, "row")]
REFUSALS = WITH_TEXT + [Coarse, NoText]


class Errors(unittest.TestCase):
    def test_any_refusal_is_a_value_error(self):
        self.assertEqual(DoubtError.__bases__, (ValueError,))

    def test_each_stands_straight_under_it(self):
        for refusal in REFUSALS:
            self.assertEqual(refusal.__bases__, (DoubtError,), refusal)

    def test_each_is_of_none_of_the_other_classes(self):
        for refusal in REFUSALS:
            made = refusal("why") if refusal in WITH_TEXT else refusal(3)
            self.assertIsInstance(made, DoubtError)
            self.assertIsInstance(made, ValueError)
            self.assertEqual([other for other in REFUSALS if isinstance(made, other)], [refusal])

    def test_there_are_no_others(self):
        found = [name for name in vars(errors) if isinstance(vars(errors)[name], type)]
        self.assertEqual(sorted(found), sorted(["DoubtError"] + [refusal.__name__ for refusal in REFUSALS]))

    def test_made_with_a_text(self):
        for refusal in WITH_TEXT:
            with self.assertRaises(refusal) as caught:
                raise refusal("some words")
            self.assertEqual(str(caught.exception), "some words")

    def test_fields_are_kept(self):
        for refusal, field in WITH_FIELD:
            for number in (0, 1, 7, 10 ** 60):
                self.assertEqual(getattr(refusal(number), field), number)

    def test_fields_are_each_object_s_own(self):
        one, other = Coarse(3), Coarse(4)
        self.assertEqual((one.step, other.step), (3, 4))
        first, second = NoText(0), NoText(1)
        self.assertEqual((first.row, second.row), (0, 1))


if __name__ == "__main__":
    unittest.main()

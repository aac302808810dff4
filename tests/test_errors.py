import unittest

from latticeworks import errors
from latticeworks.errors import LatticeError, NoSheet, NoSteps, TooMany


class Errors(unittest.TestCase):
    def test_base_stands_straight_under_value_error(self):
        self.assertEqual(LatticeError.__bases__, (ValueError,))

    def test_refusals_stand_straight_under_the_base(self):
        for refusal in (NoSteps, TooMany, NoSheet):
            self.assertEqual(refusal.__bases__, (LatticeError,))

    def test_no_refusal_stands_under_another_one(self):
        refusals = [each for each in vars(errors).values() if isinstance(each, type) and each is not LatticeError]
        self.assertEqual(len(refusals), 3)
        for refusal in refusals:
            for other in refusals:
                self.assertEqual(issubclass(refusal, other), refusal is other)

    def test_made_with_a_text(self):
        for refusal in (LatticeError, NoSteps, TooMany):
            with self.assertRaises(LatticeError) as taken:
                raise refusal("some words")
            self.assertIs(type(taken.exception), refusal)
            self.assertEqual(str(taken.exception), "some words")

    def test_no_sheet_keeps_its_line(self):
        for line in (0, 1, 39):
            with self.assertRaises(ValueError) as taken:
                raise NoSheet(line)
            self.assertEqual(taken.exception.line, line)
            self.assertIs(type(taken.exception.line), int)
            self.assertIsInstance(str(taken.exception), str)

    def test_each_no_sheet_has_its_own_line(self):
        one = NoSheet(3)
        other = NoSheet(5)
        self.assertEqual((one.line, other.line), (3, 5))


if __name__ == "__main__":
    unittest.main()

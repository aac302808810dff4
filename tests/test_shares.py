import unittest
from math import gcd

from latticeworks.errors import NoSteps
from latticeworks.shares import shares
from latticeworks.standing import standing
from tests.helper import (TWELVE_FIGURES, ask, part_of, refused, rows_of, rows_that_are_no_steps, school_shares, source,
                          step_shapes, steps_of)


class Shares(unittest.TestCase):
    def check(self, steps):
        told = ask(self, shares, steps)
        self.assertEqual(len(told), 2)
        squares, lines = school_shares(steps)
        self.assertEqual(told[0], tuple(part_of(square) for square in squares))
        self.assertEqual(told[1], tuple(tuple(part_of(share) for share in line) for line in lines))
        for square in told[0]:
            self.assertGreater(square[0], 0)
        for part in told[0] + sum(told[1], ()):
            self.assertGreater(part[1], 0)
            self.assertEqual(gcd(part[0], part[1]), 1)
        return told

    def test_every_shape(self):
        chance = source(1)
        for many, wide in step_shapes():
            for bound in (3, 100, TWELVE_FIGURES):
                self.check(steps_of(chance, many, wide, bound))

    def test_steps_with_many_noughts(self):
        chance = source(2)
        for many, wide in step_shapes(6):
            for trial in range(3):
                self.check(steps_of(chance, many, wide, 1))

    def test_a_single_step(self):
        self.assertEqual(self.check(((3, 4),)), (((25, 1),), ((),)))
        self.assertEqual(self.check(((-7,),)), (((49, 1),), ((),)))
        self.assertEqual(self.check(((0, 0, 1, 0),)), (((1, 1),), ((),)))

    def test_written_examples(self):
        self.assertEqual(self.check(((2, 0), (1, 2))), (((4, 1), (4, 1)), ((), ((1, 2),))))
        self.assertEqual(self.check(((1, 1), (1, 0))), (((2, 1), (1, 2)), ((), ((1, 2),))))
        self.assertEqual(self.check(((1, 1), (-1, 0))), (((2, 1), (1, 2)), ((), ((-1, 2),))))
        self.assertEqual(self.check(((1, 0, 0), (5, 1, 0), (7, -2, 3))),
                         (((1, 1), (1, 1), (9, 1)), ((), ((5, 1),), ((7, 1), (-2, 1)))))
        self.assertEqual(self.check(((1, 1, 0), (0, 1, 1), (1, 0, 1))),
                         (((2, 1), (3, 2), (4, 3)), ((), ((1, 2),), ((1, 2), (1, 3)))))

    def test_the_order_counts(self):
        self.assertEqual(self.check(((3, 0), (1, 1)))[0], ((9, 1), (1, 1)))
        self.assertEqual(self.check(((1, 1), (3, 0)))[0], ((2, 1), (9, 2)))

    def test_what_was_told_may_be_handed_in(self):
        rows = rows_of(source(3), 6, 4, TWELVE_FIGURES)
        form, turn, back = standing(rows)
        for steps in (form, turn, back):
            self.check(steps)

    def test_rows_that_are_no_steps(self):
        chance = source(4)
        seen = 0
        for many, wide in step_shapes():
            for bound in (4, TWELVE_FIGURES):
                for rows in rows_that_are_no_steps(chance, many, wide, bound):
                    refused(self, NoSteps, shares, rows)
                    seen += 1
        self.assertGreater(seen, 1000)


if __name__ == "__main__":
    unittest.main()

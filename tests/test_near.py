import unittest
from fractions import Fraction

from latticeworks.errors import NoSteps, TooMany
from latticeworks.near import near
from latticeworks.short import short
from tests.helper import (SchoolTree, ask, how_many_to_try, multiplied, part_of, point_of, refused, row_of,
                          rows_that_are_no_steps, school_near, school_square, source, step_shapes, steps_of, turn_of,
                          units)

MOST_TO_TRY = 15000


def whole_point(row):
    return tuple((number, 1) for number in row)


def squares_to_ask(chance, steps, point):
    """Squares from nought up, as long as there aren't too many sums to try."""
    least = part_of(SchoolTree(steps, point, (0, 1)).spent)
    square = Fraction(*least)
    yield (0, 1)
    for k in range(6):
        if how_many_to_try(steps, point, square) > MOST_TO_TRY:
            return
        yield part_of(square)
        square = square * Fraction(chance.randint(11, 50), 10) + Fraction(chance.randint(1, 9), chance.randint(1, 9))


def cases():
    """Steps, points and squares that can be tried one by one."""
    chance = source(1)
    for many, wide in step_shapes(5):
        for bound in (1, 4, 30) if many < 4 else (1, 1, 1, 1, 3, 3):
            steps = steps_of(chance, many, wide, bound)
            points = (point_of(chance, wide, 20, 6), whole_point((0,) * wide),
                      whole_point(multiplied((row_of(chance, many, 3),), steps)[0]),
                      point_of(chance, wide, 10 ** 6 - 1, 10 ** 6 - 1))
            for point in points:
                for square in squares_to_ask(chance, steps, point):
                    yield steps, point, square


class Near(unittest.TestCase):
    def check(self, steps, point, square):
        told = ask(self, near, steps, point, square)
        self.assertEqual(len(told), 2)
        points, paper = told
        self.assertEqual(list(points), sorted(set(points)))
        self.assertEqual(len(paper), 4)
        made, turn, back, tree = paper
        self.assertEqual(multiplied(turn, steps), made)
        self.assertEqual(multiplied(turn, back), units(len(steps)))
        self.assertEqual(multiplied(back, turn), units(len(steps)))
        self.assertEqual(SchoolTree(made, point, square).collects(tree), points)
        return points

    def test_all_points_one_by_one(self):
        seen = {}
        for steps, point, square in cases():
            expected = school_near(steps, point, Fraction(*square))
            if len(expected) > 300:
                refused(self, TooMany, near, steps, point, square)
                continue
            self.assertEqual(self.check(steps, point, square), expected)
            seen[len(steps)] = seen.get(len(steps), 0) + len(expected)
        self.assertEqual(sorted(seen), [1, 2, 3, 4, 5])
        self.assertGreater(min(seen.values()), 100)

    def test_written_examples(self):
        cross = ((-1, 0), (0, -1), (0, 0), (0, 1), (1, 0))
        self.assertEqual(self.check(((1, 0), (0, 1)), ((0, 1), (0, 1)), (1, 1)), cross)
        self.assertEqual(self.check(((1, 0), (5, 1)), ((0, 1), (0, 1)), (1, 1)), cross)
        self.assertEqual(self.check(((1, 0), (0, 1)), ((0, 1), (0, 1)), (99, 100)), ((0, 0),))
        self.assertEqual(self.check(((1, 0), (0, 1)), ((1, 2), (1, 2)), (1, 2)), ((0, 0), (0, 1), (1, 0), (1, 1)))
        self.assertEqual(self.check(((1, 0), (0, 1)), ((1, 2), (1, 2)), (49, 100)), ())
        self.assertEqual(self.check(((3,),), ((1, 2),), (25, 4)), ((0,), (3,)))
        self.assertEqual(self.check(((-3,),), ((1, 2),), (6, 1)), ((0,),))
        self.assertEqual(self.check(((3,),), ((10 ** 6 - 1, 1),), (9, 1)), ((999996,), (999999,), (1000002,)))
        # A point beside all sums by fractions of steps.
        self.assertEqual(self.check(((1, 0),), ((1, 3), (2, 1)), (4, 1)), ())
        self.assertEqual(self.check(((1, 0),), ((1, 3), (2, 1)), (37, 9)), ((0, 0),))
        self.assertEqual(self.check(((1, 0),), ((1, 3), (2, 1)), (36, 9)), ())
        self.assertEqual(self.check(((1, 0),), ((1, 3), (2, 1)), (40, 9)), ((0, 0), (1, 0)))

    def test_square_nought(self):
        chance = source(2)
        for many, wide in step_shapes(5):
            for bound in (3, 10 ** 6 - 1):
                steps = steps_of(chance, many, wide, bound)
                row = multiplied((row_of(chance, many, 5),), steps)[0]
                self.assertEqual(self.check(steps, whole_point(row), (0, 1)), (row,))
                off = part_of(Fraction(2 * row[-1] + 1, 2))
                self.assertEqual(self.check(steps, whole_point(row[:-1]) + (off,), (0, 1)), ())

    def test_whole_points_that_are_no_sums(self):
        self.assertEqual(self.check(((2, 0), (0, 2)), ((1, 1), (0, 1)), (0, 1)), ())
        self.assertEqual(self.check(((2, 0), (0, 2)), ((1, 1), (0, 1)), (1, 1)), ((0, 0), (2, 0)))
        self.assertEqual(self.check(((1, 1),), ((1, 1), (2, 1)), (0, 1)), ())
        self.assertEqual(self.check(((1, 1),), ((1, 1), (2, 1)), (1, 1)), ((1, 1), (2, 2)))

    def test_just_at_the_square_of_a_point(self):
        chance = source(3)
        for many, wide in step_shapes(5):
            steps = steps_of(chance, many, wide, 50)
            row = multiplied((row_of(chance, many, 5),), steps)[0]
            point = tuple(part_of(number + Fraction(chance.randint(-9, 9), 7)) for number in row)
            square = school_square(row, point)
            self.assertIn(row, self.check(steps, point, part_of(square)))
            if square > 0:
                self.assertNotIn(row, self.check(steps, point, part_of(square * Fraction(999, 1000))))

    def test_steps_that_are_far_from_short(self):
        chance = source(4)
        for many in range(2, 6):
            steps = multiplied(turn_of(chance, many, 50)[0], tuple(tuple(5 * n for n in row) for row in units(many)))
            point = point_of(chance, many, 40, 9)
            points = self.check(steps, point, (40, 1))
            plain = tuple(tuple(5 * n for n in row) for row in units(many))
            self.assertEqual(points, school_near(plain, point, Fraction(40)))

    def test_great_numbers(self):
        chance = source(5)
        for many, wide in step_shapes(5):
            for trial in range(3):
                steps = steps_of(chance, many, wide, 10 ** 6 - 1)
                point = point_of(chance, wide, 10 ** 6 - 1, 10 ** 6 - 1)
                self.check(steps, point, (10 ** 6 - 1, 7))
                row = multiplied((row_of(chance, many, 3),), steps)[0]
                point = tuple(part_of(number + Fraction(chance.randint(1, 99), 10 ** 5)) for number in row)
                self.assertEqual(self.check(steps, point, (1, 10)), (row,))

    def test_what_is_made_may_be_handed_in(self):
        steps = steps_of(source(6), 4, 5, 10 ** 6)
        made, turn, back = short(steps)
        for again in (made, turn, back):
            self.check(again, whole_point(again[0]), (1, 1))


class HowMany(unittest.TestCase):
    """300 points are told, and one more is refused."""

    def test_along_a_line(self):
        for step in (1, 7):
            told = near(((step,),), ((step, 2),), part_of(Fraction(299 * step, 2) ** 2))[0]
            self.assertEqual(told, tuple((step * k,) for k in range(-149, 151)))
            refused(self, TooMany, near, ((step,),), ((0, 1),), (150 * 150 * step * step, 1))
            self.assertEqual(len(near(((step,),), ((0, 1),), (150 * 150 * step * step - 1, 1))[0]), 299)

    def test_along_a_line_in_a_wider_room(self):
        self.assertEqual(len(near(((3, 4, 0),), ((3, 2), (2, 1), (0, 1)), part_of(Fraction(299 * 5, 2) ** 2))[0]), 300)
        refused(self, TooMany, near, ((3, 4, 0),), ((0, 1), (0, 1), (0, 1)), (150 * 150 * 25, 1))

    def test_in_a_plane(self):
        # By rising squares the number of points rises by 4, 8 or so at once: these are just at the bound.
        point = ((1, 3), (1, 7))
        counts = {}
        for square in range(80, 110):
            for extra in range(10):
                asked = part_of(Fraction(square) + Fraction(extra, 10))
                many = len(school_near(units(2), point, Fraction(*asked)))
                if many in counts or not 297 <= many <= 304:
                    continue
                counts[many] = asked
                if many <= 300:
                    self.assertEqual(len(near(units(2), point, asked)[0]), many)
                else:
                    refused(self, TooMany, near, units(2), point, asked)
        self.assertIn(300, counts)
        self.assertIn(301, counts)

    def test_far_too_many(self):
        for many in range(1, 6):
            refused(self, TooMany, near, units(many), ((1, 2),) * many, (10 ** 6 - 1, 1))
            refused(self, TooMany, near, units(many), ((1, 2),) * many, (10 ** 11, 1))
        refused(self, TooMany, near, turn_of(source(7), 5, 40)[0], ((1, 3),) * 5, (10 ** 6 - 1, 7))

    def test_rows_that_are_no_steps_come_first(self):
        chance = source(8)
        for many, wide in step_shapes(5):
            for bound in (2, 10 ** 6 - 1):
                for rows in rows_that_are_no_steps(chance, many, wide, bound):
                    refused(self, NoSteps, near, rows, ((0, 1),) * wide, (10 ** 6 - 1, 1))
                    refused(self, NoSteps, near, rows, ((1, 2),) * wide, (0, 1))


if __name__ == "__main__":
    unittest.main()

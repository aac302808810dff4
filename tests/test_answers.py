import unittest
from fractions import Fraction
from itertools import product as all_of
from math import comb, gcd
from unittest.mock import patch

from latticeworks import boxes
from latticeworks.answers import answers, small_answers
from latticeworks.dividing import dividing
from latticeworks.errors import TooMany
from latticeworks.standing import falls, is_standing, standing
from tests.helper import (TWELVE_FIGURES, ask, columns_of, dots, multiplied, refused, row_of, rows_of, shapes,
                          sorts_of_rows, source, sum_of, turn_of, units)


def is_whole(number):
    return Fraction(number).denominator == 1


class Answers(unittest.TestCase):
    def check_told(self, rows, due, told):
        self.assertEqual(len(told), 5)
        name, answer, steps, turn, back = told
        wide = len(rows[0])
        self.assertEqual(dots(rows, answer), tuple(due))
        self.assertTrue(is_standing(steps))
        self.assertEqual(falls(steps, answer), answer)
        for step in steps:
            self.assertEqual(dots(rows, step), (0,) * len(rows))
        # As many as there may be, and nothing that some number of times of is a sum of them is left out.
        self.assertEqual(len(steps), wide - len(standing(rows)[0]))
        if steps:
            self.assertEqual(dividing(steps)[0], (1,) * len(steps))
        self.assertEqual(multiplied(turn, back), units(wide))
        self.assertEqual(multiplied(back, turn), units(wide))
        made = multiplied(turn, columns_of(rows))
        many = wide - len(steps)
        self.assertTrue(is_standing(made[:many]))
        self.assertEqual(made[many:], ((0,) * len(rows),) * len(steps))

    def check_none(self, rows, due, told):
        self.assertEqual(len(told), 2)
        self.assertEqual(len(told[1]), len(rows))
        for top, bottom in told[1]:
            self.assertGreater(bottom, 0)
            self.assertEqual(gcd(top, bottom), 1)
        parts = [Fraction(*part) for part in told[1]]
        for column in columns_of(rows):
            self.assertTrue(is_whole(sum(a * b for a, b in zip(parts, column))))
        self.assertFalse(is_whole(sum(a * b for a, b in zip(parts, due))))

    def check(self, rows, due):
        told = ask(self, answers, rows, due)
        self.assertIn(told[0], ("told", "none"))
        if told[0] == "told":
            self.check_told(rows, due, told)
        else:
            self.check_none(rows, due, told)
        return told

    def test_every_shape_and_sort_with_answers(self):
        chance = source(1)
        for many, wide in shapes():
            for rows in sorts_of_rows(chance, many, wide):
                due = dots(rows, row_of(chance, wide, chance.choice((3, 10 ** 6))))
                told = self.check(rows, due)
                self.assertEqual(told[0], "told")
                # There's just one such answer for all of them.
                other = sum_of((1,) * (1 + len(told[2])), (told[1],) + told[2])
                self.assertEqual(self.check(rows, dots(rows, other))[1], told[1])

    def test_every_shape_and_sort_with_any_due(self):
        chance = source(2)
        seen = {"told": 0, "none": 0}
        for many, wide in shapes():
            for rows in sorts_of_rows(chance, many, wide):
                for bound in (2, TWELVE_FIGURES):
                    due = row_of(chance, many, bound)
                    told = self.check(rows, due)
                    seen[told[0]] += 1
                due = dots(rows, row_of(chance, wide, 3))
                place = chance.randrange(many)
                off = due[:place] + (due[place] + chance.choice((1, -1)),) + due[place + 1:]
                seen[self.check(rows, off)[0]] += 1
        self.assertGreater(min(seen.values()), 100)

    def test_all_small_ones(self):
        for numbers in all_of(range(-2, 3), repeat=3):
            first, second, due = numbers
            told = self.check(((first, second),), (due,))
            divisor = gcd(first, second)
            expected = due == 0 if divisor == 0 else due % divisor == 0
            self.assertEqual(told[0], "told" if expected else "none", numbers)

    def test_written_examples(self):
        told = self.check(((2, 3),), (7,))
        self.assertEqual(told[1:3], ((2, 1), ((3, -2),)))
        told = self.check(((1, 1, 1), (0, 1, 2)), (6, 8))
        self.assertEqual(told[1:3], ((0, 4, 2), ((1, -2, 1),)))
        self.assertEqual(self.check(((2, 4),), (3,))[0], "none")
        self.assertEqual(self.check(((5,),), (10,))[1:3], ((2,), ()))
        self.assertEqual(self.check(((5,),), (11,))[0], "none")
        self.assertEqual(self.check(((1, 0), (0, 1)), (4, -9))[1:], ((4, -9), (), ((1, 0), (0, 1)), ((1, 0), (0, 1))))

    def test_equations_of_noughts_alone(self):
        for many in range(1, 4):
            for wide in range(1, 5):
                rows = ((0,) * wide,) * many
                told = self.check(rows, (0,) * many)
                self.assertEqual(told[:3], ("told", (0,) * wide, units(wide)))
                for place in range(many):
                    due = (0,) * place + (7,) + (0,) * (many - place - 1)
                    self.assertEqual(self.check(rows, due)[0], "none")

    def test_a_nought_among_others(self):
        rows = ((1, 2, 3), (0, 0, 0), (4, 5, 6))
        self.assertEqual(self.check(rows, (6, 0, 15))[0], "told")
        self.assertEqual(self.check(rows, (6, 1, 15))[0], "none")

    def test_equations_that_are_sums_of_others(self):
        chance = source(3)
        for many, wide in shapes():
            if many == 1:
                continue
            rows = rows_of(chance, many - 1, wide, chance.choice((3, TWELVE_FIGURES)))
            due = dots(rows, row_of(chance, wide, 9))
            weights = row_of(chance, many - 1, 3)
            place = chance.randrange(many)
            odd = sum_of(weights, rows)
            odd_due = sum(a * b for a, b in zip(weights, due))
            mixed_rows = rows[:place] + (odd,) + rows[place:]
            self.assertEqual(self.check(mixed_rows, due[:place] + (odd_due,) + due[place:])[0], "told")
            for off in (1, -1, 10 ** 11):
                self.assertEqual(self.check(mixed_rows, due[:place] + (odd_due + off,) + due[place:])[0], "none")

    def test_due_that_is_no_multiple(self):
        chance = source(4)
        for many, wide in shapes():
            for divisor in (2, 7, 1000):
                rows = list(rows_of(chance, many, wide, 10 ** 8))
                place = chance.randrange(many)
                rows[place] = tuple(divisor * number for number in rows[place])
                due = dots(rows, row_of(chance, wide, 5))
                self.assertEqual(self.check(rows, due)[0], "told")
                off = due[:place] + (due[place] + chance.randint(1, divisor - 1),) + due[place + 1:]
                self.assertEqual(self.check(rows, off)[0], "none")

    def test_one_answer_alone(self):
        chance = source(5)
        for n in range(1, 9):
            turn = turn_of(chance, n, 30)[0]
            row = row_of(chance, n, 10 ** 6)
            told = self.check(turn, dots(turn, row))
            self.assertEqual(told[1:3], (row, ()))

    def test_all_answers_are_the_answer_and_sums_of_steps(self):
        chance = source(6)
        for trial in range(60):
            wide = chance.randint(1, 4)
            rows = rows_of(chance, chance.randint(1, 2), wide, 3)
            due = dots(rows, row_of(chance, wide, 2))
            name, answer, steps, turn, back = answers(rows, due)
            for row in all_of(range(-4, 5), repeat=wide):
                is_one = dots(rows, row) == due
                self.assertIs(is_one, falls(steps, row) == answer)


class SmallAnswers(unittest.TestCase):
    def tried(self, rows, due, low, high):
        """Every row within the bounds, one by one."""
        boxes = [range(least, most + 1) for least, most in zip(low, high)]
        return tuple(row for row in all_of(*boxes) if dots(rows, row) == tuple(due))

    def check(self, rows, due, low, high, expected=None):
        if expected is None:
            expected = self.tried(rows, due, low, high)
        if len(expected) > 300:
            refused(self, TooMany, small_answers, rows, due, low, high)
        else:
            self.assertEqual(ask(self, small_answers, rows, due, low, high), expected)
        return len(expected)

    def test_every_shape(self):
        chance = source(7)
        counts = []
        for many, wide in shapes():
            for bound in (0, 1, 2, 5, 1000, 10 ** 6 - 1):
                room = max(1, min(60, int(3000 ** (1 / wide)) - 1))
                low = row_of(chance, wide, chance.choice((3, 10 ** 6 - 100)))
                high = tuple(n + chance.randint(0, room) for n in low)
                rows = rows_of(chance, many, wide, bound)
                inner = tuple(chance.randint(a, b) for a, b in zip(low, high))
                counts.append(self.check(rows, dots(rows, inner), low, high))
                counts.append(self.check(rows, row_of(chance, many, 3), low, high))
        self.assertGreater(counts.count(0), 50)
        self.assertGreater(counts.count(1), 50)
        self.assertGreater(len([count for count in counts if 1 < count <= 300]), 50)
        self.assertGreater(len([count for count in counts if count > 300]), 10)

    def test_one_and_two_and_three_unknowns_in_the_widest_bounds(self):
        chance = source(8)
        for wide in (1, 2, 3):
            for bound in (1, 3, 9, 50, 10 ** 6 - 1):
                for trial in range(3 if wide < 3 else 1):
                    rows = rows_of(chance, 1, wide, bound)
                    low = row_of(chance, wide, 40)
                    high = tuple(n + 60 for n in low)
                    inner = tuple(chance.choice((a, b, chance.randint(a, b))) for a, b in zip(low, high))
                    self.check(rows, dots(rows, inner), low, high)

    def test_a_low_above_its_high(self):
        rows = ((1, 1, 0), (0, 0, 0))
        for place in range(3):
            high = (5,) * place + (-1,) + (5,) * (2 - place)
            self.check(rows, (0, 0), (0, 0, 0), high, ())
            self.check(((0, 0, 0),), (0,), (0, 0, 0), high, ())
        self.check(((1,),), (3,), (3,), (3,), ((3,),))
        self.check(((1,),), (3,), (4,), (3,), ())
        self.check(((1,),), (3,), (4,), (2,), ())
        # The bounds that are right must not make up for those that are not.
        self.check(((0, 0),), (0,), (0, 0), (60, -1), ())
        self.check(((1, 0),), (2,), (0, 10 ** 6), (60, -10 ** 6), ())

    def test_bounds_that_let_one_number_alone(self):
        chance = source(9)
        for wide in range(1, 9):
            for bound in (0, 2, 10 ** 6 - 1):
                rows = rows_of(chance, 2, wide, bound)
                row = row_of(chance, wide, 10 ** 6 - 1)
                due = dots(rows, row)
                self.check(rows, due, row, row, (row,))
                self.check(rows, (due[0] + 1, due[1]), row, row)
                for place in range(wide):
                    high = row[:place] + (row[place] + 60,) + row[place + 1:]
                    self.check(rows, due, row, high)
                    low = row[:place] + (row[place] - 60,) + row[place + 1:]
                    self.check(rows, due, low, row)

    def test_no_equation_that_binds(self):
        for many in (1, 3):
            for wide in range(1, 9):
                rows = ((0,) * wide,) * many
                nought = (0,) * many
                self.check(rows, nought, (-1,) * wide, (1,) * wide)
                self.check(rows, nought, (7,) * wide, (7,) * wide, ((7,) * wide,))
                self.check(rows, (0,) * (many - 1) + (1,), (-1,) * wide, (1,) * wide, ())
                if wide > 1:
                    refused(self, TooMany, small_answers, rows, nought, (0,) * wide, (60,) * wide)
        # The second unknown is bound by nothing.
        self.check(((2, 0),), (6,), (0, -30), (60, 30), tuple((3, n) for n in range(-30, 31)))

    def test_three_hundred_and_one_more(self):
        # 300 is 5 by 60 and 301 is 7 by 43.
        self.check(((0, 0),), (0,), (0, 0), (4, 59), tuple(all_of(range(5), range(60))))
        refused(self, TooMany, small_answers, ((0, 0),), (0,), (0, 0), (6, 42))
        self.check(((0, 0, 0),), (0,), (1, 1, 1), (3, 10, 10), tuple(all_of(range(1, 4), range(1, 11), range(1, 11))))
        # The same with a third number that the equation binds.
        rows, due = ((3, -2, 1),), (5,)
        low, high = (0, 0, -10 ** 5), (4, 59, 10 ** 5)
        told = tuple((a, b, 5 - 3 * a + 2 * b) for a in range(5) for b in range(60))
        self.check(rows, due, low, high, told)
        refused(self, TooMany, small_answers, rows, due, low, (6, 42, 10 ** 5))
        # One along a line: x is 7 y, and only the y count.
        self.check(((1, -7),), (0,), (0, 0), (7 * 299, 299), tuple((7 * n, n) for n in range(300)))
        refused(self, TooMany, small_answers, ((1, -7),), (0,), (0, 0), (7 * 300, 300))

    def test_sums_at_a_corner(self):
        for wide in range(2, 9):
            for due in (0, 1, 2, 3):
                many = comb(due + wide - 1, due)
                told = small_answers(((1,) * wide,), (due,), (0,) * wide, (60,) * wide)
                self.assertEqual(len(told), many)
                self.assertEqual(list(told), sorted(set(told)))
                self.assertTrue(all(sum(row) == due and min(row) >= 0 for row in told))
                top = small_answers(((1,) * wide,), (60 * wide - due,), (0,) * wide, (60,) * wide)
                self.assertEqual(top, tuple(tuple(60 - n for n in row) for row in reversed(told)))
                signs = tuple(1 - 2 * (place % 2) for place in range(wide))
                low = tuple(0 if sign > 0 else -60 for sign in signs)
                high = tuple(60 if sign > 0 else 0 for sign in signs)
                self.assertEqual(len(small_answers((signs,), (due,), low, high)), many)
            self.assertEqual(small_answers(((1,) * wide,), (-1,), (0,) * wide, (60,) * wide), ())
            self.assertEqual(small_answers(((1,) * wide,), (60 * wide + 1,), (0,) * wide, (60,) * wide), ())

    def test_two_equations_at_a_corner(self):
        # Weights of 1 to 8 on eight numbers whose sum is 240: the most is 60 for each of the last four.
        rows = ((1,) * 8, (1, 2, 3, 4, 5, 6, 7, 8))
        low, high = (0,) * 8, (60,) * 8
        self.check(rows, (240, 1560), low, high, ((0, 0, 0, 0, 60, 60, 60, 60),))
        self.check(rows, (240, 1559), low, high, ((0, 0, 0, 1, 59, 60, 60, 60),))
        self.check(rows, (240, 1561), low, high, ())
        self.check(rows, (240, 1558), low, high, ((0, 0, 0, 1, 60, 59, 60, 60), (0, 0, 0, 2, 58, 60, 60, 60),
                                                  (0, 0, 1, 0, 59, 60, 60, 60)))
        refused(self, TooMany, small_answers, rows, (240, 1080), low, high)

    def test_knapsacks(self):
        chance = source(10)
        for trial in range(12):
            row = tuple(chance.randint(1, 10 ** 6 - 1) for place in range(8))
            inner = tuple(chance.choice((0, 0, 60, 1)) for place in range(8))
            rows = (row, row_of(chance, 8, 10 ** 6 - 1), row_of(chance, 8, 10 ** 6 - 1))
            told = small_answers(rows, dots(rows, inner), (0,) * 8, (60,) * 8)
            self.assertIn(inner, told)
            self.assertEqual(list(told), sorted(set(told)))
            for found in told:
                self.assertEqual(dots(rows, found), dots(rows, inner))
                self.assertTrue(all(0 <= n <= 60 for n in found))

    def test_boxes_of_many_shapes(self):
        self.check_boxes_of_many_shapes()

    def test_boxes_that_are_parted_early(self):
        for most in (1, 30):
            with patch.object(boxes, "MOST_TRIES", most):
                self.check_boxes_of_many_shapes()
        with patch.object(boxes, "MOST_ROUNDS", 0), patch.object(boxes, "MOST_TRIES", 50):
            self.check_boxes_of_many_shapes()

    def check_boxes_of_many_shapes(self):
        chance = source(11)
        counts = []
        for trial in range(150):
            wide = chance.randint(2, 6)
            rows = rows_of(chance, chance.randint(1, 2), wide, chance.choice((1, 1, 3, 20)))
            rooms = [chance.choice((0, 1, 1, 2, 5, 60)) for place in range(wide)]
            many = 1
            for place, room in enumerate(rooms):
                if many * (room + 1) > 4000:
                    rooms[place] = 0
                many *= rooms[place] + 1
            low = row_of(chance, wide, 20)
            high = tuple(a + b for a, b in zip(low, rooms))
            inner = tuple(chance.choice((a, a, b, b, chance.randint(a, b))) for a, b in zip(low, high))
            counts.append(self.check(rows, dots(rows, inner), low, high))
        self.assertGreater(len([count for count in counts if count > 1]), 50)


if __name__ == "__main__":
    unittest.main()

import unittest
from itertools import product as all_of

from latticeworks.dividing import dividing
from latticeworks.errors import TooMany
from latticeworks.inside import inside
from latticeworks.rests import all_rests, kinds_of_rests, rest_order, rest_sum
from latticeworks.standing import falls, standing
from tests.helper import TWELVE_FIGURES, ask, multiplied, row_of, rows_of, shapes, sorts_of_rows, source, turn_of, units


def times(number, row):
    return tuple(number * n for n in row)


def is_sum(rows, row):
    return inside(rows, row)[0] == "told"


class KindsOfRests(unittest.TestCase):
    def test_written_examples(self):
        self.assertEqual(ask(self, kinds_of_rests, ((2, 0, 0), (0, 6, 0))), ((2, 6), 1))
        self.assertEqual(ask(self, kinds_of_rests, ((1, 0), (0, 1))), ((), 0))
        self.assertEqual(ask(self, kinds_of_rests, ((0, 0),)), ((), 2))
        self.assertEqual(ask(self, kinds_of_rests, ((4, 0), (0, 6))), ((2, 12), 0))
        self.assertEqual(ask(self, kinds_of_rests, ((2, 0), (0, 3))), ((6,), 0))
        self.assertEqual(ask(self, kinds_of_rests, ((5,), (10,), (0,))), ((5,), 0))
        self.assertEqual(ask(self, kinds_of_rests, ((1, 2, 3), (4, 5, 6), (7, 8, 9))), ((3,), 1))

    def test_every_shape_and_sort(self):
        chance = source(1)
        for many, wide in shapes():
            for rows in sorts_of_rows(chance, many, wide):
                numbers = dividing(rows)[0]
                kinds, frees = ask(self, kinds_of_rests, rows)
                self.assertEqual(kinds, tuple(number for number in numbers if number > 1))
                self.assertEqual(frees, wide - len(standing(rows)[0]))


class AllRests(unittest.TestCase):
    def check(self, rows, many):
        rests = ask(self, all_rests, rows)
        self.assertEqual(len(rests), many)
        self.assertEqual(list(rests), sorted(set(rests)))
        form = standing(rows)[0]
        for rest in rests:
            self.assertEqual(falls(form, rest), rest)
        return rests

    def test_one_rest(self):
        self.assertEqual(self.check(((1,),), 1), ((0,),))
        self.assertEqual(self.check(((1, 5), (0, 1)), 1), ((0, 0),))
        for n in range(1, 9):
            turn = turn_of(source(n), n, 30)[0]
            self.assertEqual(self.check(turn, 1), ((0,) * n,))

    def test_some_rests(self):
        self.assertEqual(self.check(((3,),), 3), ((0,), (1,), (2,)))
        self.assertEqual(self.check(((2, 1), (0, 2)), 4), ((0, 0), (0, 1), (1, 0), (1, 1)))
        self.assertEqual(self.check(((-4, 0), (2, 3), (0, 0)), 12)[-1], (1, 5))

    def test_all_that_rows_have(self):
        chance = source(2)
        for trial in range(40):
            wide = chance.randint(1, 3)
            rows = rows_of(chance, wide + 1, wide, 5)
            form = standing(rows)[0]
            if len(form) < wide:
                self.assertIsNone(all_rests(rows))
                continue
            size = 1
            for k, row in enumerate(form):
                size *= row[k]
            if size > 300:
                self.assertRaises(TooMany, all_rests, rows)
                continue
            found = {falls(form, row) for row in all_of(range(-6, 7), repeat=wide)}
            told = self.check(rows, size)
            self.assertTrue(found <= set(told))
            if size <= 13:
                self.assertEqual(tuple(sorted(found)), told)

    def test_just_three_hundred(self):
        self.check(((300,),), 300)
        self.check(((10, 3), (0, 30)), 300)
        self.check(((2, 0, 1), (0, 10, 7), (0, 0, 15)), 300)
        self.check(multiplied(turn_of(source(3), 3)[0], ((2, 0, 1), (0, 10, 7), (0, 0, 15))), 300)

    def test_just_too_many(self):
        for rows in (((301,),), ((7, 1), (0, 43)), ((-301, 0), (0, 1)), ((43, 0, 0), (0, 7, 3), (0, 0, 1)),
                     ((TWELVE_FIGURES,),)):
            for form in (rows, [list(row) for row in rows]):
                with self.assertRaises(TooMany) as taken:
                    all_rests(form)
                self.assertIs(type(taken.exception), TooMany)
        self.assertRaises(TooMany, all_rests, rows_of(source(4), 8, 8, TWELVE_FIGURES))

    def test_no_end_of_them(self):
        for rows in (((0,),), ((1, 0),), ((301, 0),), ((301, 0), (602, 0)), ((0, 0), (0, 0)),
                     ((TWELVE_FIGURES, 0, 0), (0, TWELVE_FIGURES, 0)), ((1, 2, 3), (4, 5, 6), (7, 8, 9))):
            self.assertIsNone(ask(self, all_rests, rows))


class RestSum(unittest.TestCase):
    def test_written_examples(self):
        self.assertEqual(ask(self, rest_sum, ((2, 1), (0, 3)), (1, 1), (1, 2)), (0, 2))
        self.assertEqual(ask(self, rest_sum, ((5,),), (3,), (4,)), (2,))
        self.assertEqual(ask(self, rest_sum, ((5,),), (-3,), (-4,)), (3,))
        self.assertEqual(ask(self, rest_sum, ((0, 0),), (3, -4), (5, 1)), (8, -3))

    def test_every_shape_and_sort(self):
        chance = source(5)
        for many, wide in shapes():
            for rows in sorts_of_rows(chance, many, wide):
                one = row_of(chance, wide, TWELVE_FIGURES)
                other = row_of(chance, wide, 9)
                together = tuple(a + b for a, b in zip(one, other))
                form = standing(rows)[0]
                told = ask(self, rest_sum, rows, one, other)
                self.assertEqual(told, falls(form, together))
                self.assertEqual(rest_sum(rows, falls(form, other), falls(form, one)), told)


class RestOrder(unittest.TestCase):
    def test_sums_of_rows(self):
        chance = source(6)
        for many, wide in shapes():
            for rows in sorts_of_rows(chance, many, wide):
                row = multiplied((row_of(chance, many, 99),), rows)[0]
                self.assertEqual(ask(self, rest_order, rows, row), 1)

    def test_noughts(self):
        for rows in (((5,),), ((0,),), ((2, 1), (4, 2)), ((0, 0),)):
            self.assertEqual(ask(self, rest_order, rows, (0,) * len(rows[0])), 1)

    def test_rows_that_never_come_round(self):
        for rows, row in ((((0,),), (1,)), (((1, 1),), (1, 2)), (((2, 4), (3, 6)), (0, 1)), (((0, 3),), (1, 3)),
                          (((2, 0, 0), (0, 0, 3)), (1, 1, 1)), (((1, 0, 0),), (0, 0, -TWELVE_FIGURES))):
            self.assertIsNone(ask(self, rest_order, rows, row))

    def test_written_examples(self):
        self.assertEqual(ask(self, rest_order, ((4,), (6,)), (1,)), 2)
        self.assertEqual(ask(self, rest_order, ((4, 0), (0, 6)), (1, 1)), 12)
        self.assertEqual(ask(self, rest_order, ((4, 0), (0, 6)), (-2, 3)), 2)
        self.assertEqual(ask(self, rest_order, ((4, 0), (0, 6)), (2, -2)), 6)
        self.assertEqual(ask(self, rest_order, ((4, 8),), (3, 6)), 4)
        self.assertEqual(ask(self, rest_order, ((TWELVE_FIGURES,),), (-1,)), TWELVE_FIGURES)
        self.assertEqual(ask(self, rest_order, ((2, 1), (0, 2)), (1, 0)), 4)

    def test_the_least_number_of_times(self):
        chance = source(7)
        seen = set()
        for trial in range(120):
            wide = chance.randint(1, 3)
            rows = rows_of(chance, chance.randint(1, 3), wide, 5)
            row = row_of(chance, wide, 7)
            order = ask(self, rest_order, rows, row)
            seen.add(order)
            tried = [count for count in range(1, (order or 200) + 1) if is_sum(rows, times(count, row))]
            self.assertEqual(tried, [] if order is None else [order])
        self.assertGreater(len(seen), 8)

    def test_large_ones(self):
        chance = source(8)
        for n in range(1, 9):
            rows = rows_of(chance, n, n, TWELVE_FIGURES)
            row = row_of(chance, n, TWELVE_FIGURES)
            order = ask(self, rest_order, rows, row)
            self.assertGreater(order, 0)
            self.assertTrue(is_sum(rows, times(order, row)))
            for prime in (2, 3, 5, 7, 11, 13):
                if order % prime == 0:
                    self.assertFalse(is_sum(rows, times(order // prime, row)))
        tens = tuple(times(10, row) for row in units(4))
        self.assertEqual(rest_order(tens, (1, 2, 5, 10)), 10)
        self.assertEqual(rest_order(tens, (0, 2, 4, 6)), 5)
        self.assertEqual(rest_order(tens, (0, 5, 0, -5)), 2)


if __name__ == "__main__":
    unittest.main()

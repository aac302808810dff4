import unittest
from itertools import combinations
from math import gcd

from latticeworks.dividing import dividing, shows_dividing
from latticeworks.rows import measure
from tests.helper import (TWELVE_FIGURES, ask, check_refuses_strange, check_told, listed, mixed, multiplied, rows_of,
                          shapes, sorts_of_rows, source, turn_of, units, wrong_numbers)


def laid_out(numbers, many, wide):
    return tuple(tuple(numbers[k] if k == place and k < len(numbers) else 0 for place in range(wide))
                 for k in range(many))


def numbers_by_measures(rows):
    """The numbers by what divides all determinants of so many of the rows and columns."""
    found = []
    ahead = 1
    for size in range(1, min(len(rows), len(rows[0])) + 1):
        shared = 0
        for chosen in combinations(rows, size):
            for places in combinations(range(len(rows[0])), size):
                shared = gcd(shared, measure([[row[place] for place in places] for row in chosen]))
        if shared == 0:
            break
        found.append(shared // ahead)
        ahead = shared
    return tuple(found)


class Dividing(unittest.TestCase):
    def check(self, rows):
        told = ask(self, dividing, rows)
        self.assertEqual(len(told), 5)
        numbers, left, left_back, right, right_back = told
        many, wide = len(rows), len(rows[0])
        ahead = 1
        for number in numbers:
            self.assertGreater(number, 0)
            self.assertEqual(number % ahead, 0)
            ahead = number
        for turn, back, size in ((left, left_back, many), (right, right_back, wide)):
            self.assertEqual(multiplied(turn, back), units(size))
            self.assertEqual(multiplied(back, turn), units(size))
        self.assertEqual(multiplied(multiplied(left, rows), right), laid_out(numbers, many, wide))
        self.assertIs(shows_dividing(rows, told), True)
        return numbers

    def test_every_shape_and_sort(self):
        chance = source(1)
        for many, wide in shapes():
            for rows in sorts_of_rows(chance, many, wide):
                self.check(rows)

    def test_numbers_by_determinants(self):
        chance = source(2)
        for many, wide in shapes():
            if many * wide <= 16:
                for rows in sorts_of_rows(chance, many, wide):
                    self.assertEqual(dividing(rows)[0], numbers_by_measures(rows))

    def test_written_examples(self):
        self.assertEqual(self.check(((0, 0), (0, 0))), ())
        self.assertEqual(self.check(((-5,),)), (5,))
        self.assertEqual(self.check(((4, 0), (0, 6))), (2, 12))
        self.assertEqual(self.check(((6, 0, 0), (0, 10, 0), (0, 0, 15))), (1, 30, 30))
        self.assertEqual(self.check(((2, 4, 4), (-6, 6, 12), (10, -4, -16))), (2, 6, 12))
        self.assertEqual(self.check(((0, 0), (0, 7))), (7,))
        self.assertEqual(self.check(((0, 4, 6),)), (2,))
        self.assertEqual(self.check(((4,), (0,), (6,))), (2,))
        self.assertEqual(self.check(((1, 2, 3), (4, 5, 6), (7, 8, 9))), (1, 3))

    def test_diagonals_whose_numbers_divide_no_others(self):
        chance = source(3)
        for many in range(2, 9):
            numbers = [chance.choice((4, 6, 9, 10, 14, 15, 21, 22, 25, 30, 36)) for k in range(many)]
            rows = laid_out(numbers, many, many)
            told = self.check(rows)
            for prime in (2, 3, 5, 7, 11):
                # The powers of each prime come in order, whatever numbers they stood in.
                powers = sorted(self.power_in(number, prime) for number in numbers)
                self.assertEqual([self.power_in(number, prime) for number in told], powers)

    def power_in(self, number, prime):
        power = 0
        while number % prime == 0:
            number //= prime
            power += 1
        return power

    def test_the_numbers_of_rows_turned_on_either_side(self):
        chance = source(4)
        for many, wide in shapes():
            least = min(many, wide)
            numbers = [2]
            while len(numbers) < least:
                numbers.append(numbers[-1] * chance.choice((1, 1, 2, 3, 5)))
            numbers = tuple(numbers[:chance.randint(0, least)])
            rows = laid_out(numbers, many, wide)
            turned = multiplied(multiplied(turn_of(chance, many, 15)[0], rows), turn_of(chance, wide, 15)[0])
            self.assertEqual(self.check(turned), numbers)
            for rows in sorts_of_rows(chance, many, wide):
                expected = dividing(rows)[0]
                self.assertEqual(dividing(multiplied(turn_of(chance, many)[0], rows))[0], expected)
                self.assertEqual(dividing(multiplied(rows, turn_of(chance, wide)[0]))[0], expected)

    def test_what_was_told_is_taken_again(self):
        rows = rows_of(source(5), 8, 7, TWELVE_FIGURES)
        told = dividing(rows)
        self.assertEqual(self.check(told[1]), (1,) * 8)
        self.assertEqual(self.check(told[3]), (1,) * 7)


class ShowsDividing(unittest.TestCase):
    def test_takes_what_is_told_and_nothing_of_a_wrong_kind(self):
        chance = source(6)
        for many, wide in ((1, 1), (1, 3), (3, 1), (2, 2), (3, 2)):
            for rows in sorts_of_rows(chance, many, wide):
                told = dividing(rows)
                for handed in (rows, listed(rows)):
                    check_told(self, lambda thing: shows_dividing(handed, thing), told)
                for spoilt in wrong_numbers(told):
                    self.assertIs(shows_dividing(rows, spoilt), False, (rows, spoilt))

    def test_large_ones(self):
        chance = source(7)
        for many, wide in ((8, 8), (8, 3), (3, 8)):
            for rows in sorts_of_rows(chance, many, wide):
                told = dividing(rows)
                for form in (told, listed(told), mixed(told), mixed(told, True)):
                    self.assertIs(shows_dividing(rows, form), True)

    def test_other_right_turns(self):
        rows = ((2, 0), (0, 6))
        unit = units(2)
        self.assertIs(ask(self, shows_dividing, rows, ((2, 6), unit, unit, unit, unit)), True)
        minus = ((-1, 0), (0, -1))
        self.assertIs(ask(self, shows_dividing, rows, ((2, 6), minus, minus, minus, minus)), True)
        left, left_back = ((1, 0), (-3, 1)), ((1, 0), (3, 1))
        right, right_back = ((1, 0), (1, 1)), ((1, 0), (-1, 1))
        self.assertIs(ask(self, shows_dividing, rows, ((2, 6), left, left_back, right, right_back)), True)
        self.assertIs(ask(self, shows_dividing, rows, ((2, 6), left, left_back, unit, unit)), False)
        self.assertIs(ask(self, shows_dividing, rows, ((2, 6), left_back, left, right, right_back)), False)
        self.assertIs(ask(self, shows_dividing, ((2, 0), (-6, 6)), ((2, 6), unit, unit, right, right_back)), True)

    def test_numbers_that_do_not_divide_or_are_not_above_nought(self):
        unit = units(2)
        for numbers, rows in (((4, 6), ((4, 0), (0, 6))), ((6, 2), ((6, 0), (0, 2))), ((-2, 6), ((-2, 0), (0, 6))),
                              ((2, -6), ((2, 0), (0, -6))), ((2, 0), ((2, 0), (0, 0))), ((0, 0), ((0, 0), (0, 0))),
                              ((0, 2), ((0, 0), (0, 2))), ((0,), ((0, 0), (0, 0)))):
            self.assertIs(shows_dividing(rows, (numbers, unit, unit, unit, unit)), False, numbers)
        self.assertIs(shows_dividing(((2, 0), (0, 0)), ((2,), unit, unit, unit, unit)), True)
        self.assertIs(shows_dividing(((0, 0), (0, 0)), ((), unit, unit, unit, unit)), True)

    def test_too_many_numbers_or_too_few(self):
        one, two = units(1), units(2)
        self.assertIs(shows_dividing(((3, 0),), ((3,), one, one, two, two)), True)
        for numbers in ((3, 3), (3, 0), (), (1,), (3, 6, 12)):
            self.assertIs(shows_dividing(((3, 0),), (numbers, one, one, two, two)), False)
            self.assertIs(shows_dividing(((3,), (0,)), (numbers, two, two, one, one)), False)

    def test_turns_of_another_size_or_none(self):
        one, two, three = units(1), units(2), units(3)
        rows = ((1, 0), (0, 1))
        self.assertIs(shows_dividing(rows, ((1, 1), two, two, two, two)), True)
        for left, right in ((one, two), (two, one), (three, two), (two, three), ((), two), (two, ())):
            self.assertIs(shows_dividing(rows, ((1, 1), left, left, right, right)), False)
        # Rows by which the product comes out, but which have no back in whole numbers.
        self.assertIs(shows_dividing(((1,),), ((2,), ((2,),), ((1,),), one, one)), False)
        self.assertIs(shows_dividing(((1,),), ((2,), one, one, ((2,),), ((1,),))), False)

    def test_strange_things(self):
        for seed, rows in enumerate((((2, 1), (0, 3)), ((5,),), ((0, 0),), ((1, 2, 3), (4, 5, 6), (7, 8, 9)))):
            check_refuses_strange(self, lambda thing: shows_dividing(rows, thing), seed)


if __name__ == "__main__":
    unittest.main()

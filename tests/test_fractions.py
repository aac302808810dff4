import unittest
from fractions import Fraction

from latticeworks.fractions import before, floor_of, is_part, minus, over, part, plus, times, whole
from tests.helper import BEYOND, STRANGE, ask, source, strange_thing

SIXTY_FIGURES = 10 ** 60 - 1


def told_of(exact):
    return (exact.numerator, exact.denominator)


def some_fractions():
    chance = source(4)
    found = [(0, 1), (1, 1), (-1, 1), (1, 2), (-1, 2), (2, 3), (-7, 3), (12, 1), (-12, 1)]
    found += [(SIXTY_FIGURES, 1), (-SIXTY_FIGURES, SIXTY_FIGURES - 1), (1, SIXTY_FIGURES)]
    for bound in (5, 50, 10 ** 6, SIXTY_FIGURES):
        for trial in range(5):
            found.append(told_of(Fraction(chance.randint(-bound, bound), chance.randint(1, bound))))
    return found


class Part(unittest.TestCase):
    def test_small_tops_and_bottoms_of_either_sign(self):
        for top in range(-24, 25):
            for bottom in list(range(-24, 0)) + list(range(1, 25)):
                self.assertEqual(part(top, bottom), told_of(Fraction(top, bottom)))

    def test_written_examples(self):
        self.assertEqual(part(6, 4), (3, 2))
        self.assertEqual(part(6, -4), (-3, 2))
        self.assertEqual(part(-6, -4), (3, 2))
        self.assertEqual(part(-2, 4), (-1, 2))

    def test_nought_as_top(self):
        for bottom in (1, -1, 7, -7, SIXTY_FIGURES, -SIXTY_FIGURES):
            self.assertEqual(part(0, bottom), (0, 1))

    def test_sixty_figures(self):
        chance = source(1)
        for trial in range(100):
            shared = chance.randint(1, 10 ** 20)
            top = chance.randint(-10 ** 40, 10 ** 40) * shared
            bottom = chance.choice((1, -1)) * chance.randint(1, 10 ** 40) * shared
            self.assertEqual(ask(self, part, top, bottom), told_of(Fraction(top, bottom)))


class Reckoning(unittest.TestCase):
    def test_two_fractions(self):
        for one in some_fractions():
            for other in some_fractions():
                a, b = Fraction(*one), Fraction(*other)
                self.assertEqual(plus(one, other), told_of(a + b))
                self.assertEqual(minus(one, other), told_of(a - b))
                self.assertEqual(times(one, other), told_of(a * b))
                self.assertIs(before(one, other), a < b)
                if b != 0:
                    self.assertEqual(over(one, other), told_of(a / b))

    def test_lists_are_as_tuples_and_stay_the_same(self):
        pairs = [((1, 2), (-2, 3)), ((-3, 1), (-5, 7)), ((1, 6), (1, 3)), ((2, 5), (2, 5))]
        for one, other in pairs:
            a, b = Fraction(*one), Fraction(*other)
            self.assertEqual(ask(self, plus, one, other), told_of(a + b))
            self.assertEqual(ask(self, minus, one, other), told_of(a - b))
            self.assertEqual(ask(self, times, one, other), told_of(a * b))
            self.assertEqual(ask(self, over, one, other), told_of(a / b))
            self.assertIs(ask(self, before, one, other), a < b)
            self.assertEqual(ask(self, floor_of, one), a.__floor__())

    def test_over_by_fractions_below_nought(self):
        self.assertEqual(over((1, 2), (-1, 3)), (-3, 2))
        self.assertEqual(over((-1, 2), (-1, 4)), (2, 1))
        self.assertEqual(over((0, 1), (-5, 3)), (0, 1))

    def test_before_both_ways_and_of_equal_ones(self):
        self.assertIs(before((1, 3), (1, 2)), True)
        self.assertIs(before((1, 2), (1, 3)), False)
        self.assertIs(before((-1, 2), (-1, 3)), True)
        self.assertIs(before((-1, 3), (-1, 2)), False)
        for one in some_fractions():
            self.assertIs(before(one, one), False)
            self.assertIs(before(one, plus(one, (1, SIXTY_FIGURES))), True)

    def test_floor(self):
        self.assertEqual(floor_of((7, 2)), 3)
        self.assertEqual(floor_of((-7, 2)), -4)
        self.assertEqual(floor_of((-1, 2)), -1)
        self.assertEqual(floor_of((-4, 1)), -4)
        self.assertEqual(floor_of((4, 1)), 4)
        self.assertEqual(floor_of((0, 1)), 0)
        for one in some_fractions():
            self.assertEqual(floor_of(one), Fraction(*one).__floor__())

    def test_whole(self):
        for n in (0, 1, -1, 12, -SIXTY_FIGURES):
            self.assertEqual(ask(self, whole, n), (n, 1))


class IsPart(unittest.TestCase):
    def test_tuples_and_lists_in_lowest_terms(self):
        for one in some_fractions():
            self.assertIs(ask(self, is_part, one), True)

    def test_every_small_pair(self):
        for top in range(-12, 13):
            for bottom in range(-12, 13):
                right = bottom > 0 and told_of(Fraction(top, bottom)) == (top, bottom)
                self.assertIs(is_part((top, bottom)), right)
                self.assertIs(is_part([top, bottom]), right)

    def test_what_is_none(self):
        wrong = [(2, 4), (0, 2), (0, 0), (1, 0), (1, -1), (-1, -2), (0, -1), (True, 2), (1, True), (False, 1),
                 (3, False), (True, True), ("1", 2), (1, "2"), (None, 1), (1, None), ((1,), 2), (1, [2]), ([1], [2]),
                 (1,), (1, 2, 3), (1, 1, 1), (), 5, 0, "", "12", "a", None, True, False]
        for thing in wrong:
            self.assertIs(ask(self, is_part, thing), False, repr(thing))

    def test_any_thing(self):
        for thing in BEYOND:
            self.assertIs(is_part(thing), False, repr(thing))
        right = ((1, 1), [0, 1])
        for thing in STRANGE:
            self.assertIs(is_part(thing), thing in right, repr(thing))
        chance = source(2)
        for trial in range(500):
            self.assertIsInstance(is_part(strange_thing(chance, 5)), bool)


if __name__ == "__main__":
    unittest.main()

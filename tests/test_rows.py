import unittest
from itertools import permutations

from latticeworks.rows import are_back, dot, is_rows, measure, product, sum_by, turned_over, unit_rows
from tests.helper import (BEYOND, STRANGE, TWELVE_FIGURES, ask, dependent, listed, mixed, multiplied, row_of, rows_of,
                          shapes, source, strange_thing, turn_of, units)


def school_measure(rows):
    """The determinant by all orders of places."""
    total = 0
    for order in permutations(range(len(rows))):
        value = 1
        for k, place in enumerate(order):
            value *= rows[k][place]
            value *= (-1) ** sum(other > place for other in order[:k])
        total += value
    return total


class Sums(unittest.TestCase):
    def test_every_shape(self):
        chance = source(1)
        for many, wide in shapes():
            rows = rows_of(chance, many, wide, TWELVE_FIGURES)
            weights = row_of(chance, many, TWELVE_FIGURES)
            self.assertEqual(ask(self, sum_by, weights, rows, wide), multiplied((weights,), rows)[0])

    def test_without_rows(self):
        for wide in range(9):
            self.assertEqual(ask(self, sum_by, (), (), wide), (0,) * wide)

    def test_written_example(self):
        self.assertEqual(sum_by((2, -1), ((1, 2, 3), (4, 5, 6)), 3), (-2, -1, 0))


class Products(unittest.TestCase):
    def test_every_shape(self):
        chance = source(2)
        for many, inner in shapes():
            wide = chance.randint(1, 8)
            one = rows_of(chance, many, inner, TWELVE_FIGURES)
            other = rows_of(chance, inner, wide, TWELVE_FIGURES)
            self.assertEqual(ask(self, product, one, other), multiplied(one, other))

    def test_no_rows_as_its_first(self):
        self.assertEqual(ask(self, product, (), ((1, 2),)), ())
        self.assertEqual(ask(self, product, (), ((1,), (2,), (3,))), ())

    def test_order_counts(self):
        one = ((1, 1), (0, 1))
        other = ((1, 0), (1, 1))
        self.assertEqual(product(one, other), ((2, 1), (1, 1)))
        self.assertEqual(product(other, one), ((1, 1), (1, 2)))


class TurnedOver(unittest.TestCase):
    def test_every_shape(self):
        chance = source(3)
        for many, wide in shapes():
            rows = rows_of(chance, many, wide, TWELVE_FIGURES)
            self.assertEqual(ask(self, turned_over, rows, wide), tuple(zip(*rows)))

    def test_without_rows(self):
        for wide in range(9):
            self.assertEqual(ask(self, turned_over, (), wide), ((),) * wide)

    def test_of_empty_rows(self):
        self.assertEqual(ask(self, turned_over, ((), ()), 0), ())


class UnitRowsAndDot(unittest.TestCase):
    def test_unit_rows(self):
        self.assertEqual(unit_rows(0), ())
        self.assertEqual(unit_rows(3), ((1, 0, 0), (0, 1, 0), (0, 0, 1)))
        for n in range(10):
            self.assertEqual(ask(self, unit_rows, n), units(n))

    def test_dot(self):
        chance = source(4)
        self.assertEqual(ask(self, dot, (), ()), 0)
        self.assertEqual(ask(self, dot, (1, -2, 3), (4, 5, -6)), -24)
        for wide in range(1, 9):
            one = row_of(chance, wide, TWELVE_FIGURES)
            other = row_of(chance, wide, TWELVE_FIGURES)
            self.assertEqual(ask(self, dot, one, other), sum(a * b for a, b in zip(one, other)))


class Measure(unittest.TestCase):
    def test_small_and_large(self):
        chance = source(5)
        for n in range(1, 7):
            for bound in (1, 3, TWELVE_FIGURES):
                rows = rows_of(chance, n, n, bound)
                self.assertEqual(ask(self, measure, rows), school_measure(rows))

    def test_every_two_by_two_of_small_numbers(self):
        for a, b, c, d in [(a, b, c, d) for a in range(-2, 3) for b in range(-2, 3) for c in range(-2, 3)
                           for d in range(-2, 3)]:
            self.assertEqual(measure(((a, b), (c, d))), a * d - b * c)

    def test_noughts_where_elimination_would_divide(self):
        self.assertEqual(measure(((0, 1), (1, 0))), -1)
        self.assertEqual(measure(((0, 0, 1), (0, 1, 0), (1, 0, 0))), -1)
        self.assertEqual(measure(((0, 2, 3), (4, 0, 5), (6, 7, 0))), 144)
        self.assertEqual(measure(((1, 2, 3), (2, 4, 5), (1, 1, 1))), -1)
        self.assertEqual(measure(((0, 1, 0, 0), (0, 0, 1, 0), (0, 0, 0, 1), (1, 0, 0, 0))), -1)
        chance = source(6)
        for n in range(2, 7):
            for trial in range(20):
                rows = tuple(tuple(chance.choice((0, 0, 0, 1, -2, 5)) for place in range(n)) for k in range(n))
                self.assertEqual(measure(rows), school_measure(rows))

    def test_dependent_rows(self):
        self.assertEqual(measure(((0,),)), 0)
        chance = source(7)
        for n in range(2, 9):
            for bound in (4, TWELVE_FIGURES):
                rows = list(rows_of(chance, n, n, bound))
                rows[chance.randrange(1, n)] = rows[0]
                self.assertEqual(ask(self, measure, rows), 0)
                rows = list(rows_of(chance, n, n, bound))
                rows[-1] = multiplied((row_of(chance, n - 1, 5),), rows[:-1])[0]
                self.assertEqual(ask(self, measure, rows), 0)
                rows[0] = (0,) * n
                self.assertEqual(measure(rows), 0)

    def test_exchanging_two_rows_turns_the_sign(self):
        chance = source(8)
        for n in range(2, 9):
            rows = list(rows_of(chance, n, n, TWELVE_FIGURES))
            value = measure(rows)
            self.assertNotEqual(value, 0)
            one, other = chance.sample(range(n), 2)
            rows[one], rows[other] = rows[other], rows[one]
            self.assertEqual(measure(rows), -value)

    def test_of_products_and_turns(self):
        chance = source(9)
        for n in range(1, 9):
            turn, back = turn_of(chance, n, 30)
            self.assertIn(measure(turn), (1, -1))
            self.assertEqual(measure(back), measure(turn))
            rows = rows_of(chance, n, n, TWELVE_FIGURES)
            self.assertEqual(measure(multiplied(turn, rows)), measure(turn) * measure(rows))

    def test_diagonals_of_eight(self):
        self.assertEqual(measure(tuple(tuple(2 * n for n in row) for row in units(8))), 256)
        self.assertEqual(measure(((TWELVE_FIGURES,),)), TWELVE_FIGURES)


class AreBack(unittest.TestCase):
    def test_turns_and_their_backs(self):
        chance = source(10)
        for n in range(1, 9):
            turn, back = turn_of(chance, n, 30)
            self.assertIs(ask(self, are_back, turn, back), True)
            self.assertIs(ask(self, are_back, back, turn), True)
            for k in range(n):
                for place in range(n):
                    wrong = listed(back)
                    wrong[k][place] += 1
                    self.assertIs(are_back(turn, wrong), False)

    def test_no_rows_at_all(self):
        self.assertIs(ask(self, are_back, (), ()), True)
        self.assertIs(are_back([], ()), True)
        self.assertIs(are_back((), []), True)

    def test_shapes_that_do_not_fit(self):
        wrong = [((), ((1,),)), (((1,),), ()), (((1,),), ((1, 0), (0, 1))), (((1, 0), (0, 1)), ((1,),)),
                 (((1, 0),), ((1,), (0,))), (((1,), (0,)), ((1, 0),)), (((1, 0), (0, 1)), ((1, 0), (0, 1), (0, 0))),
                 (((1, 0), (0, 1)), ((1, 0, 0), (0, 1, 0))), (((1, 0), (0,)), ((1, 0), (0, 1))), (((),), ((),)),
                 (((1, 0), (0, 1)), ((1, 0), (0, 1, 0))), (((), ()), ((), ()))]
        for turn, back in wrong:
            self.assertIs(ask(self, are_back, turn, back), False, (turn, back))

    def test_no_turn_or_another_back(self):
        self.assertIs(are_back(((2,),), ((1,),)), False)
        self.assertIs(are_back(((0,),), ((0,),)), False)
        self.assertIs(are_back(((1, 1), (0, 1)), ((1, 1), (0, 1))), False)
        self.assertIs(are_back(((-1,),), ((-1,),)), True)

    def test_wrong_kinds(self):
        unit = ((1, 0), (0, 1))
        strange = [((True, 0), (0, 1)), ((1, False), (0, 1)), (("1", 0), (0, 1)), ((1, None), (0, 1)), ((1, 0), 1),
                   ((1, 0), "01"), ((1, 0), None), 1, "ab", "", None, True, ((1, 0), ((0,), 1)), {0: (1, 0), 1: (0, 1)}]
        for thing in strange:
            self.assertIs(are_back(thing, unit), False, repr(thing))
            self.assertIs(are_back(unit, thing), False, repr(thing))
            self.assertIs(are_back(thing, thing), False, repr(thing))

    def test_any_two_things(self):
        chance = source(11)
        things = STRANGE + BEYOND
        backs = [((1,),), ((1, 0), (0, 1))]
        for one in things:
            for other in things:
                right = False
                for unit in [()] + backs:
                    if isinstance(one, (list, tuple)) and isinstance(other, (list, tuple)):
                        alike = repr(listed(one)) == repr(listed(other)) == repr(listed(unit))
                        right = right or alike
                self.assertIs(are_back(one, other), right, repr((one, other)))
        for trial in range(500):
            self.assertIsInstance(are_back(strange_thing(chance, 5), strange_thing(chance, 5)), bool)


class IsRows(unittest.TestCase):
    def test_every_shape(self):
        chance = source(12)
        for many, wide in shapes():
            rows = rows_of(chance, many, wide, TWELVE_FIGURES)
            for form in (rows, listed(rows), mixed(rows), mixed(rows, True)):
                self.assertIs(is_rows(form, many, wide), True)
                self.assertIs(is_rows(form, None, wide), True)
                self.assertIs(is_rows(form, many + 1, wide), False)
                self.assertIs(is_rows(form, many - 1, wide), False)
                self.assertIs(is_rows(form, 0, wide), False)
                self.assertIs(is_rows(form, many, wide + 1), False)
                self.assertIs(is_rows(form, None, wide - 1), False)
                self.assertIs(is_rows(form, None, 0), False)

    def test_no_rows_at_all(self):
        for thing in ((), []):
            self.assertIs(is_rows(thing, 0, 3), True)
            self.assertIs(is_rows(thing, None, 3), True)
            self.assertIs(is_rows(thing, 1, 3), False)
            self.assertIs(is_rows(thing, 1, 0), False)

    def test_empty_rows(self):
        self.assertIs(is_rows(((), ()), 2, 0), True)
        self.assertIs(is_rows(((), ()), None, 0), True)
        self.assertIs(is_rows(((), ()), 2, 1), False)

    def test_wrong_kinds(self):
        wrong = [((1, True), (0, 1)), ((1, 0), (False, 1)), ((1, "0"), (0, 1)), ((1, 0), (0, None)), ((1, 0), 5),
                 ((1, 0), "01"), ((1, 0), None), ("10", "01"), ((1, 0), (0,)), ((1, 0), (0, 1, 2)), ((1, (0,)), (0, 1)),
                 5, "ab", "", None, True, ((1, 0), {0: 0, 1: 1}), {0: (1, 0), 1: (0, 1)}, ((1, 0), {0, 1})]
        for thing in wrong:
            self.assertIs(is_rows(thing, 2, 2), False, repr(thing))
            self.assertIs(is_rows(thing, None, 2), False, repr(thing))

    def test_any_thing(self):
        chance = source(13)
        for thing in BEYOND:
            for many in (None, 0, 1, 2):
                for wide in (0, 1, 2):
                    self.assertIs(is_rows(thing, many, wide), False, repr(thing))
        for thing in STRANGE + tuple(strange_thing(chance, 6) for trial in range(500)):
            for many in (None, 0, 1, 2):
                self.assertIsInstance(is_rows(thing, many, 1), bool)

    def test_nothing_is_changed(self):
        self.assertIs(ask(self, is_rows, dependent(source(14), ((1, 2), (3, 4))), 2, 2), True)


if __name__ == "__main__":
    unittest.main()

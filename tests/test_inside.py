import unittest
from fractions import Fraction

from latticeworks.inside import inside, shows_inside
from latticeworks.standing import falls, standing
from tests.helper import (TWELVE_FIGURES, ask, check_refuses_strange, check_told, listed, mixed, multiplied, put_at,
                          row_of, rows_of, shapes, sorts_of_rows, source, wrong_numbers)


def parts_with(parts, row):
    return sum((Fraction(*one) * number for one, number in zip(parts, row)), Fraction(0))


def is_lowest(one):
    return type(one) is tuple and len(one) == 2 and one[1] > 0 and Fraction(*one).denominator == one[1]


def is_right(rows, row, told):
    """Whether told, of the right kinds, is right: by the document's words, with Python's own fractions."""
    if told[0] == "told":
        return len(told[1]) == len(rows) and multiplied((told[1],), rows)[0] == tuple(row)
    if not all(one[1] > 0 and Fraction(*one).denominator == one[1] for one in told[1]):
        return False
    products = [parts_with(told[1], each).denominator for each in rows]
    return all(bottom == 1 for bottom in products) and parts_with(told[1], row).denominator != 1


def cases():
    """Rows with a row each: sums, sums with a bit more, halves of sums, and others."""
    chance = source(1)
    for many, wide in shapes():
        for rows in sorts_of_rows(chance, many, wide):
            exact = multiplied((row_of(chance, many, 50),), rows)[0]
            doubled = tuple(tuple(6 * n for n in row) for row in rows)
            yield rows, exact
            yield rows, tuple(n + (place == wide - 1) for place, n in enumerate(exact))
            yield rows, row_of(chance, wide, TWELVE_FIGURES)
            yield rows, (0,) * wide
            yield doubled, exact
            yield doubled, multiplied((row_of(chance, many, 3),), doubled)[0]


class Inside(unittest.TestCase):
    def test_every_shape_and_sort(self):
        seen = {"told": 0, "none": 0}
        for rows, row in cases():
            told = ask(self, inside, rows, row)
            self.assertEqual(len(told), 2)
            seen[told[0]] += 1
            if told[0] == "told":
                self.assertEqual(len(told[1]), len(rows))
                self.assertEqual(multiplied((told[1],), rows)[0], row)
            else:
                self.assertEqual(told[0], "none")
                self.assertEqual(len(told[1]), len(row))
                self.assertTrue(all(is_lowest(one) for one in told[1]), told)
                for each in rows:
                    self.assertEqual(parts_with(told[1], each).denominator, 1)
                self.assertNotEqual(parts_with(told[1], row).denominator, 1)
            self.assertIs(shows_inside(rows, row, told), True)
        self.assertGreater(min(seen.values()), 300)

    def test_is_told_just_for_sums(self):
        for rows, row in cases():
            fallen = falls(standing(rows)[0], row)
            self.assertEqual(inside(rows, row)[0], "none" if any(fallen) else "told")

    def test_written_examples(self):
        self.assertEqual(inside(((2, 0), (0, 2)), (4, -6)), ("told", (2, -3)))
        self.assertEqual(inside(((5,),), (0,)), ("told", (0,)))
        # A sum by fractions, but by no whole numbers.
        self.assertEqual(inside(((2, 0), (0, 2)), (1, 0))[0], "none")
        self.assertEqual(inside(((4,), (6,)), (3,))[0], "none")
        self.assertEqual(inside(((4,), (6,)), (2,))[0], "told")
        # No sum by fractions either.
        self.assertEqual(inside(((1, 1),), (1, 2))[0], "none")
        self.assertEqual(inside(((0, 0),), (0, 1))[0], "none")
        self.assertEqual(inside(((0, 0),), (0, 0))[0], "told")

    def test_no_sum_behind_leads_that_need_not_be_one(self):
        rows = ((3, 1, 1, 4), (0, 0, 5, 2), (3, 1, 6, 6))
        for row in ((3, 1, 1, 5), (3, 2, 1, 4), (0, 0, 5, 3), (1, 0, 0, 0), (0, 0, 1, 0), (6, 2, 3, 8)):
            told = inside(rows, row)
            self.assertEqual(told[0], "none")
            self.assertTrue(is_right(rows, row, told))
        self.assertEqual(inside(rows, (6, 2, 7, 10))[0], "told")


class ShowsInside(unittest.TestCase):
    def test_takes_what_is_told_and_nothing_of_a_wrong_kind(self):
        small = [case for case in cases() if len(case[0]) < 4 and len(case[1]) < 4]
        for rows, row in small:
            told = inside(rows, row)
            check_told(self, lambda thing: shows_inside(rows, row, thing), told)
            self.assertIs(ask(self, shows_inside, rows, row, told), True)
            other = "none" if told[0] == "told" else "told"
            self.assertIs(shows_inside(rows, row, (other, told[1])), False)

    def test_other_numbers_as_they_are(self):
        small = [case for case in cases() if len(case[0]) < 4 and len(case[1]) < 4]
        right = 0
        for rows, row in small:
            told = inside(rows, row)
            for changed in wrong_numbers(told):
                if told[0] == "none" and any(one[1] == 0 for one in changed[1]):
                    self.assertIs(shows_inside(rows, row, changed), False)
                    continue
                expected = is_right(rows, row, changed)
                right += expected
                self.assertIs(shows_inside(rows, row, changed), expected, (rows, row, changed))
        self.assertGreater(right, 0)

    def test_other_right_ones(self):
        rows = ((2, 4), (3, 6), (0, 0))
        self.assertIs(ask(self, shows_inside, rows, (1, 2), ("told", (-1, 1, 0))), True)
        self.assertIs(ask(self, shows_inside, rows, (1, 2), ("told", (2, -1, 77))), True)
        self.assertIs(ask(self, shows_inside, rows, (1, 2), ("told", (2, 1, 0))), False)
        self.assertIs(ask(self, shows_inside, ((2, 0), (0, 2)), (1, 1), ("none", ((1, 2), (0, 1)))), True)
        self.assertIs(ask(self, shows_inside, ((2, 0), (0, 2)), (1, 1), ("none", ((-7, 2), (5, 1)))), True)
        self.assertIs(ask(self, shows_inside, ((2, 0), (0, 2)), (1, 1), ("none", ((1, 2), (1, 2)))), False)
        self.assertIs(ask(self, shows_inside, ((2, 0), (0, 2)), (1, 1), ("none", ((1, 4), (0, 1)))), False)
        self.assertIs(ask(self, shows_inside, ((1, 1),), (1, 2), ("none", ((1, 9), (-1, 9)))), True)

    def test_fractions_that_are_none(self):
        rows, row = ((2, 0), (0, 2)), (1, 1)
        right = ("none", ((1, 2), (0, 1)))
        self.assertIs(shows_inside(rows, row, right), True)
        for path, new in (((1, 0), (2, 4)), ((1, 0), (-1, -2)), ((1, 0), (1, 0)), ((1, 0), (True, 2)), ((1, 1), (0, 2)),
                          ((1, 1), (0, 0)), ((1, 1), (0, True)), ((1, 1), (False, 1)), ((1, 1), (0, -1)),
                          ((1, 1), 0), ((1, 1), None), ((1, 1), "01"), ((1, 1), (0,)), ((1, 1), (0, 1, 1))):
            self.assertIs(shows_inside(rows, row, put_at(right, path, new)), False, new)

    def test_as_many_as_told(self):
        rows, row = ((1, 0, 0), (0, 1, 0)), (1, 1, 0)
        self.assertIs(shows_inside(rows, row, ("told", (1, 1))), True)
        for weights in ((1,), (1, 1, 0), (), (1, 1, 1)):
            self.assertIs(shows_inside(rows, row, ("told", weights)), False)
        half = ("none", ((0, 1), (0, 1), (1, 2)))
        self.assertIs(shows_inside(rows, (0, 0, 1), half), True)
        for parts in (half[1][:2], half[1] + ((0, 1),), half[1][1:], ()):
            self.assertIs(shows_inside(rows, (0, 0, 1), ("none", parts)), False)

    def test_large_ones(self):
        chance = source(2)
        for many, wide in ((8, 8), (8, 5), (5, 8)):
            rows = rows_of(chance, many, wide, TWELVE_FIGURES)
            for row in (row_of(chance, wide, TWELVE_FIGURES), multiplied((row_of(chance, many, 9),), rows)[0]):
                told = inside(rows, row)
                for form in (told, listed(told), mixed(told), mixed(told, True)):
                    self.assertIs(shows_inside(rows, row, form), True)

    def test_strange_things(self):
        for seed, (rows, row) in enumerate(((((2, 1), (0, 3)), (1, 1)), (((5,),), (3,)), (((5,),), (10,)),
                                            (((1, 2, 3), (4, 5, 6)), (5, 7, 9)))):
            check_refuses_strange(self, lambda thing: shows_inside(rows, row, thing), seed)


if __name__ == "__main__":
    unittest.main()

import unittest
from itertools import product as all_of

from latticeworks.standing import falls, is_standing, shows_standing, standing
from tests.helper import (TWELVE_FIGURES, ask, check_refuses_strange, check_told, listed, mixed, multiplied, row_of,
                          rows_of, school_standing, shapes, sorts_of_rows, source, tupled, turn_of, units,
                          wrong_numbers)


def taken_away(one, other):
    return tuple(a - b for a, b in zip(one, other))


class IsStanding(unittest.TestCase):
    def test_no_rows(self):
        self.assertIs(is_standing(()), True)
        self.assertIs(is_standing([]), True)

    def test_what_stands(self):
        right = [((1,),), ((5,),), ((1, 0), (0, 1)), ((2, -7),), ((0, 0, 3),), ((2, 0, 1), (0, 1, -9)),
                 ((4, 2, -5), (0, 3, 100)), ((1, 5, 0), (0, 0, 2)), ((0, 2, 1), (0, 0, 2)), ((3, 2), (0, 3))]
        for rows in right:
            self.assertIs(ask(self, is_standing, rows), True, rows)

    def test_a_row_of_noughts_at_any_place(self):
        form = ((2, 0, 1), (0, 1, 1), (0, 0, 2))
        self.assertIs(is_standing(form), True)
        for k in range(4):
            self.assertIs(ask(self, is_standing, form[:k] + ((0, 0, 0),) + form[k:]), False)
        self.assertIs(is_standing(((0,),)), False)
        self.assertIs(is_standing(((0, 0), (0, 0))), False)

    def test_leads_that_do_not_rise(self):
        for rows in (((0, 1), (1, 0)), ((2, 0), (2, 1)), ((1, 0, 0), (0, 0, 1), (0, 1, 0)), ((0, 1), (0, 1)),
                     ((1, 0, 0), (0, 0, 1), (0, 0, 1))):
            self.assertIs(ask(self, is_standing, rows), False, rows)

    def test_a_lead_below_nought(self):
        for rows in (((-1,),), ((-2, 5),), ((1, 0), (0, -1)), ((0, -3, 1), (0, 0, 2))):
            self.assertIs(ask(self, is_standing, rows), False, rows)

    def test_numbers_above_a_lead(self):
        for above in range(-9, 10):
            self.assertIs(ask(self, is_standing, ((7, above), (0, 3))), above in (0, 1, 2), above)
            self.assertIs(is_standing(((7, 1, above), (0, 2, 0), (0, 0, 3))), above in (0, 1, 2), above)
            self.assertIs(is_standing(((7, 1, 0), (0, 2, above), (0, 0, 3))), above in (0, 1, 2), above)

    def test_all_small_ones(self):
        for numbers in all_of((-1, 0, 1, 2), repeat=4):
            rows = (numbers[:2], numbers[2:])
            self.assertIs(is_standing(rows), school_standing(rows), rows)
        for numbers in all_of((-1, 0, 2), repeat=6):
            rows = (numbers[:3], numbers[3:])
            self.assertIs(is_standing(rows), school_standing(rows), rows)


class Standing(unittest.TestCase):
    def check(self, rows):
        told = ask(self, standing, rows)
        self.assertEqual(len(told), 3)
        form, turn, back = told
        many, wide = len(rows), len(rows[0])
        self.assertTrue(school_standing(form), form)
        self.assertEqual(multiplied(turn, rows), form + ((0,) * wide,) * (many - len(form)))
        self.assertEqual(multiplied(turn, back), units(many))
        self.assertEqual(multiplied(back, turn), units(many))
        self.assertIs(shows_standing(rows, told), True)
        return form

    def test_every_shape_and_sort(self):
        chance = source(1)
        for many, wide in shapes():
            for rows in sorts_of_rows(chance, many, wide):
                form = self.check(rows)
                if form:
                    self.assertEqual(self.check(form), form)

    def test_written_examples(self):
        self.assertEqual(standing(((4,), (6,)))[0], ((2,),))
        self.assertEqual(standing(((0, 0), (0, 0)))[0], ())
        self.assertEqual(standing(((-3, 1),))[0], ((3, -1),))
        self.assertEqual(standing(((2, 4), (3, 5)))[0], ((1, 1), (0, 2)))
        self.assertEqual(standing(((0, 5), (2, 7)))[0], ((2, 2), (0, 5)))
        self.assertEqual(standing(((1, 2, 3), (4, 5, 6), (7, 8, 9)))[0], ((1, 2, 3), (0, 3, 6)))
        self.assertEqual(standing(((2, 0), (0, 2), (1, 1)))[0], ((1, 1), (0, 2)))

    def test_rows_with_the_same_sums(self):
        chance = source(2)
        for many, wide in shapes():
            for rows in sorts_of_rows(chance, many, wide):
                form = standing(rows)[0]
                same = [tuple(reversed(rows)), multiplied(turn_of(chance, many, 20)[0], rows),
                        tuple(tuple(-n for n in row) for row in rows), rows + rows[:1],
                        rows + multiplied((row_of(chance, many, 4),), rows), ((0,) * wide,) + rows]
                for others in same:
                    self.assertEqual(standing(others)[0], form)

    def test_other_sums_have_another_form(self):
        chance = source(3)
        for trial in range(60):
            rows = rows_of(chance, 2, 3, 4)
            form = standing(rows)[0]
            doubled = tuple(tuple(2 * n for n in row) for row in rows)
            if form:
                self.assertNotEqual(standing(doubled)[0], form)

    def test_what_was_told_is_taken_again(self):
        chance = source(4)
        rows = rows_of(chance, 8, 7, TWELVE_FIGURES)
        form, turn, back = standing(rows)
        for again in (turn, back):
            self.assertEqual(self.check(again), units(8))
        self.check(form)

    def test_somewhat_beyond_the_bounds(self):
        chance = source(5)
        self.check(rows_of(chance, 10, 10, 10 ** 14))
        self.check(rows_of(chance, 16, 12, 10 ** 6))


class ShowsStanding(unittest.TestCase):
    def test_takes_what_is_told_and_nothing_of_a_wrong_kind(self):
        chance = source(6)
        for many, wide in ((1, 1), (1, 3), (3, 1), (2, 2), (3, 2), (2, 4)):
            for rows in sorts_of_rows(chance, many, wide):
                told = standing(rows)
                for handed in (rows, listed(rows), mixed(rows)):
                    check_told(self, lambda thing: shows_standing(handed, thing), told)
                for spoilt in wrong_numbers(told):
                    self.assertIs(shows_standing(rows, spoilt), False, (rows, spoilt))

    def test_large_ones(self):
        chance = source(7)
        for many, wide in ((8, 8), (8, 3), (3, 8)):
            for rows in sorts_of_rows(chance, many, wide):
                told = standing(rows)
                self.assertIs(ask(self, shows_standing, rows, told), True)
                self.assertIs(shows_standing(rows, (told[0], told[2], told[1])), told[1] == told[2])

    def test_any_other_right_turn(self):
        rows = ((2, 4), (3, 5), (5, 9), (1, 1))
        form, turn, back = standing(rows)
        self.assertEqual(len(form), 2)
        for times in (1, -3, 10 ** 50):
            # Rows that make noughts may be added to any other row of the turn.
            other_turn = tuple(tuple(a + times * b for a, b in zip(row, turn[3])) if k < 3 else row
                               for k, row in enumerate(turn))
            other_back = tuple(row[:3] + (row[3] - times * sum(row[:3]),) for row in back)
            self.assertEqual(multiplied(other_turn, other_back), units(4))
            self.assertIs(ask(self, shows_standing, rows, (form, other_turn, other_back)), True)
            self.assertIs(shows_standing(rows, (form, other_turn, back)), False)
        swapped = turn[:2] + (turn[3], turn[2])
        swapped_back = tuple(row[:2] + (row[3], row[2]) for row in back)
        self.assertIs(shows_standing(rows, (form, swapped, swapped_back)), True)

    def test_forms_that_do_not_stand(self):
        unit = units(2)
        self.assertIs(shows_standing(((1, 0), (0, 1)), (unit, unit, unit)), True)
        for rows in (((0, 1), (1, 0)), ((1, 1), (0, 1)), ((-1, 0), (0, 1)), ((1, -1), (0, 3)), ((1, 3), (0, 3))):
            self.assertIs(shows_standing(rows, (rows, unit, unit)), False, rows)

    def test_rows_of_noughts_do_not_belong_to_the_form(self):
        unit = units(2)
        rows = ((1, 2), (0, 0))
        self.assertIs(shows_standing(rows, (((1, 2),), unit, unit)), True)
        self.assertIs(shows_standing(rows, (rows, unit, unit)), False)
        self.assertIs(shows_standing(((0, 0), (0, 0)), ((), unit, unit)), True)
        self.assertIs(shows_standing(((0, 0), (0, 0)), (((0, 0),), unit, unit)), False)
        self.assertIs(shows_standing(((0, 0), (1, 2)), (((1, 2),), unit, unit)), False)

    def test_turns_of_another_size_or_none(self):
        rows = ((1, 0), (0, 1))
        self.assertIs(shows_standing(rows, (rows, units(3), units(3))), False)
        self.assertIs(shows_standing(rows, (rows, units(1), units(1))), False)
        self.assertIs(shows_standing(rows, (rows, (), ())), False)
        self.assertIs(shows_standing(((2, 0), (0, 0)), (((4, 0),), ((2, 0), (0, 1)), ((1, 0), (0, 1)))), False)
        self.assertIs(shows_standing(((2,), (0,)), (((2,), (1,)), units(2), units(2))), False)
        self.assertIs(shows_standing(((2, 0),), (((2,),), ((1,),), ((1,),))), False)

    def test_strange_things(self):
        for seed, rows in enumerate((((2, 1), (0, 3)), ((5,),), ((0, 0),), ((1, 2, 3), (4, 5, 6), (7, 8, 9)))):
            check_refuses_strange(self, lambda thing: shows_standing(rows, thing), seed)


class Falls(unittest.TestCase):
    def test_every_shape(self):
        chance = source(8)
        for many, wide in shapes():
            for rows in sorts_of_rows(chance, many, wide):
                form = standing(rows)[0]
                for bound in (5, TWELVE_FIGURES):
                    row = row_of(chance, wide, bound)
                    self.check(form, row)

    def check(self, form, row):
        rest = ask(self, falls, form, row)
        self.assertEqual(len(rest), len(row))
        for each in form:
            lead = next(place for place, number in enumerate(each) if number != 0)
            self.assertIn(rest[lead], range(each[lead]))
        if form:
            # A row that is a sum adds nothing to the form.
            self.assertEqual(standing(form + (taken_away(row, rest),))[0], form)
        else:
            self.assertEqual(rest, row)
        self.assertEqual(falls(form, rest), rest)

    def test_by_no_rows_the_row_itself(self):
        for row in ((0, 0), (3, -4), (TWELVE_FIGURES, -TWELVE_FIGURES)):
            self.assertEqual(ask(self, falls, (), row), row)

    def test_written_examples(self):
        self.assertEqual(falls(((2, 1), (0, 3)), (5, 5)), (1, 0))
        self.assertEqual(falls(((2, 1), (0, 3)), (-1, -1)), (1, 0))
        self.assertEqual(falls(((3, -1),), (-4, 2)), (2, 0))
        self.assertEqual(falls(((0, 4),), (9, -9)), (9, 3))

    def test_noughts_just_for_sums(self):
        chance = source(9)
        form = standing(((6, 2, 1), (0, 4, 3), (0, 0, 5)))[0]
        sums = 0
        for trial in range(200):
            weights = row_of(chance, 3, 10 ** 6)
            row = multiplied((weights,), form)[0]
            self.assertEqual(falls(form, row), (0, 0, 0))
            near = tuple(n + chance.randint(-1, 1) for n in row)
            change = taken_away(near, row)
            self.assertEqual(falls(form, near) == (0, 0, 0), change == (0, 0, 0))
            sums += change == (0, 0, 0)
        self.assertGreater(sums, 0)

    def test_rows_that_differ_by_a_sum_have_one_rest(self):
        chance = source(10)
        for many, wide in shapes():
            form = standing(rows_of(chance, many, wide, 9))[0]
            row = row_of(chance, wide, TWELVE_FIGURES)
            shift = multiplied((row_of(chance, len(form), 99),), form)[0]
            moved = tupled([a + b for a, b in zip(row, shift)])
            self.assertEqual(falls(form, moved), falls(form, row))


if __name__ == "__main__":
    unittest.main()

import unittest

from latticeworks.errors import NoSteps
from latticeworks.short import is_short, short, shows_short
from latticeworks.standing import standing
from tests.helper import (BEYOND, STRANGE, TWELVE_FIGURES, are_steps, ask, bent, check_refuses_strange, check_told,
                          is_tuple_of, listed, mixed, multiplied, refused, rows_of, rows_that_are_no_steps, scaled,
                          school_is_short, school_turned, source, step_shapes, steps_of, tupled, turn_of, units,
                          wrong_numbers)


def school_shows_short(steps, told):
    """By the words of the document; told may be anything."""
    if not are_steps(steps) or not is_tuple_of(told, 3) or not school_turned(steps, *told):
        return False
    return school_is_short(tupled(told[0]))


def triangle(chance, many, wide, bound):
    """Steps that are far from short: great numbers ahead of each one's own 1."""
    rows = [[0] * wide for k in range(many)]
    for k, row in enumerate(rows):
        row[k] = bound if k == 0 else 1
        for place in range(k):
            row[place] = chance.randint(bound // 10, bound)
    return tupled(rows)


def far_ones(chance, many, wide):
    yield steps_of(chance, many, wide, TWELVE_FIGURES)
    yield steps_of(chance, many, wide, 2)
    yield triangle(chance, many, wide, TWELVE_FIGURES)
    yield tuple(reversed(triangle(chance, many, wide, 10 ** 6)))
    yield multiplied(turn_of(chance, many, 60)[0], steps_of(chance, many, wide, 9))
    yield standing(steps_of(chance, many, wide, 1000))[0]


class IsShort(unittest.TestCase):
    def check(self, steps, expected):
        self.assertIs(school_is_short(steps), expected, steps)
        self.assertIs(ask(self, is_short, steps), expected, steps)

    def test_one_step(self):
        for step in ((1,), (-5,), (0, 0, 3), (TWELVE_FIGURES,) * 8):
            self.check((step,), True)

    def test_shares_at_a_half(self):
        for share, expected in ((0, True), (499, True), (500, True), (501, False), (999, False), (1000, False)):
            for sign in (1, -1):
                self.check(((1000, 0), (sign * share, 1000)), expected)
                # The same between steps that don't follow one another, where the square isn't asked for it.
                self.check(((1000, 0, 0), (0, 1000, 0), (sign * share, 0, 1000)), expected)
                self.check(((1000, 0, 0), (0, 1000, 0), (0, sign * share, 1000)), expected)
                self.check(((1000, 0, 0), (sign * share, 1000, 0), (0, 0, 1000)), expected)
        self.check(((10 ** 11, 0), (5 * 10 ** 10, 10 ** 11)), True)
        self.check(((10 ** 11, 0), (5 * 10 ** 10 + 1, 10 ** 11)), False)
        self.check(((10 ** 11, 0), (-5 * 10 ** 10 - 1, 10 ** 11)), False)

    def test_squares_at_the_bound(self):
        # Three quarters of the square ahead, where there is no share.
        self.check(((2, 0, 0, 0), (0, 1, 1, 1)), True)
        self.check(((20, 0, 0, 0), (0, 17, 3, 1)), False)
        self.check(((20, 0, 0, 0), (0, 10, 10, 10)), True)
        # A half of it, where the share is a half.
        for sign in (1, -1):
            self.check(((2, 0, 0), (sign, 1, 1)), True)
            self.check(((20, 0, 0, 0, 0), (10 * sign, 14, 1, 1, 1)), False)
            self.check(((20, 0, 0, 0, 0), (10 * sign, 14, 2, 0, 0)), True)
        # 3/4 less 1/16 of it, where the share is a quarter.
        self.check(((8, 0, 0, 0), (2, 6, 2, 2)), True)
        self.check(((8, 0, 0, 0), (2, 5, 3, 3)), False)
        # At the steps behind.
        self.check(((2, 0, 0, 0, 0), (0, 2, 0, 0, 0), (0, 0, 1, 1, 1)), True)
        self.check(((20, 0, 0, 0, 0), (0, 20, 0, 0, 0), (0, 0, 17, 3, 1)), False)
        self.check(((2, 0, 0), (0, 2, 0), (0, 1, 2)), True)
        self.check(((1, 0, 0), (0, 9, 0), (0, 0, 1)), False)
        self.check(((1, 0, 0), (0, 1, 0), (0, 0, 9)), True)

    def test_all_sorts(self):
        chance = source(1)
        seen = {True: 0, False: 0}
        for many, wide in step_shapes(5):
            for trial in range(40):
                steps = steps_of(chance, many, wide, chance.choice((1, 2, 5)))
                expected = school_is_short(steps)
                seen[expected] += 1
                self.assertIs(is_short(steps), expected)
        self.assertGreater(min(seen.values()), 100)

    def test_rows_that_are_no_steps(self):
        chance = source(2)
        for many, wide in step_shapes():
            for rows in rows_that_are_no_steps(chance, many, wide, 9):
                refused(self, NoSteps, is_short, rows)


class Short(unittest.TestCase):
    def check(self, steps):
        told = ask(self, short, steps)
        self.assertEqual(len(told), 3)
        made, turn, back = told
        self.assertTrue(school_is_short(made))
        self.assertEqual(multiplied(turn, steps), made)
        self.assertEqual(multiplied(turn, back), units(len(steps)))
        self.assertEqual(multiplied(back, turn), units(len(steps)))
        self.assertIs(is_short(made), True)
        self.assertIs(shows_short(steps, told), True)
        return made

    def test_every_shape_and_sort(self):
        chance = source(3)
        for many, wide in step_shapes():
            for steps in far_ones(chance, many, wide):
                made = self.check(steps)
                self.assertEqual(standing(made)[0], standing(steps)[0])

    def test_one_step(self):
        for step in ((5,), (-3, 0), (0, 7, -7)):
            self.assertIn(self.check((step,)), ((step,), (scaled(-1, step),)))

    def test_turned_unit_rows(self):
        chance = source(4)
        for many in range(2, 9):
            for trial in range(5):
                made = self.check(turn_of(chance, many, 40)[0])
                if many < 5:
                    # With so few short steps there's no room for any but the shortest ones.
                    self.assertEqual([sum(n * n for n in row) for row in made], [1] * many)

    def test_what_was_told_may_be_handed_in(self):
        form, turn, back = standing(rows_of(source(5), 7, 6, TWELVE_FIGURES))
        for steps in (form, turn, back):
            made, turn, back = short(steps)
            for again in (made, turn, back):
                self.check(again)

    def test_rows_that_are_no_steps(self):
        chance = source(6)
        for many, wide in step_shapes():
            for bound in (4, TWELVE_FIGURES):
                for rows in rows_that_are_no_steps(chance, many, wide, bound):
                    refused(self, NoSteps, short, rows)


class ShowsShort(unittest.TestCase):
    def small_ones(self):
        chance = source(7)
        for many, wide in step_shapes(4):
            for bound in (1, 5, TWELVE_FIGURES):
                yield steps_of(chance, many, wide, bound)

    def test_takes_what_is_told_and_nothing_of_a_wrong_kind(self):
        for steps in self.small_ones():
            told = short(steps)
            for handed in (steps, listed(steps), mixed(steps)):
                check_told(self, lambda thing: shows_short(handed, thing), told)
            self.assertIs(ask(self, shows_short, steps, told), True)

    def test_other_numbers(self):
        for steps in self.small_ones():
            for spoilt in wrong_numbers(short(steps)):
                self.assertIs(shows_short(steps, spoilt), school_shows_short(steps, spoilt), (steps, spoilt))

    def test_rows_exchanged(self):
        for steps in self.small_ones():
            told = short(steps)
            for k in range(len(steps)):
                for other in range(k):
                    for place in range(3):
                        rows = list(told[place])
                        rows[k], rows[other] = rows[other], rows[k]
                        spoilt = told[:place] + (tuple(rows),) + told[place + 1:]
                        self.assertIs(shows_short(steps, spoilt), school_shows_short(steps, spoilt))
                        self.assertIs(shows_short(steps, spoilt), False)

    def test_the_three_in_another_order(self):
        for steps in self.small_ones():
            made, turn, back = short(steps)
            for spoilt in ((turn, made, back), (made, back, turn), (back, turn, made), (made, turn), (made,), (),
                           (made, turn, back, back), (made, turn, turn), (steps, turn, back)):
                self.assertIs(shows_short(steps, spoilt), school_shows_short(steps, spoilt))

    def test_the_steps_themselves(self):
        seen = {True: 0, False: 0}
        for steps in self.small_ones():
            one = units(len(steps))
            expected = school_is_short(steps)
            seen[expected] += 1
            self.assertIs(ask(self, shows_short, steps, (steps, one, one)), expected)
            made = short(steps)[0]
            self.assertIs(ask(self, shows_short, made, (made, one, one)), True)
        self.assertGreater(min(seen.values()), 5)

    def test_a_further_turn_behind(self):
        chance = source(8)
        seen = {True: 0, False: 0}
        for steps in self.small_ones():
            many = len(steps)
            made, turn, back = short(steps)
            for strokes in (1, 1, 1, 2, 6):
                more, more_back = turn_of(chance, many, strokes)
                told = (multiplied(more, made), multiplied(more, turn), multiplied(back, more_back))
                expected = school_shows_short(steps, told)
                seen[expected] += 1
                self.assertIs(shows_short(steps, told), expected)
                self.assertIs(shows_short(steps, listed(told)), expected)
            signs = tuple(scaled(chance.choice((1, -1)), row) for row in units(many))
            told = (multiplied(signs, made), multiplied(signs, turn), multiplied(back, signs))
            self.assertIs(shows_short(steps, told), True)
        self.assertGreater(min(seen.values()), 15)

    def test_no_turn(self):
        # Twice the steps are short too, but no turn makes them.
        steps = ((1, 0), (0, 1))
        twice = ((2, 0), (0, 2))
        self.assertIs(shows_short(steps, (twice, twice, twice)), False)
        self.assertIs(shows_short(steps, (twice, twice, steps)), False)
        self.assertIs(shows_short(steps, (steps, steps, steps)), True)
        self.assertIs(shows_short(steps, (((0, 0), (0, 0)),) * 3), False)

    def test_rows_that_are_no_steps(self):
        chance = source(9)
        for many, wide in step_shapes(5):
            for rows in rows_that_are_no_steps(chance, many, wide, 5):
                one = units(len(rows))
                self.assertIs(ask(self, shows_short, rows, (rows, one, one)), False)
                turn, back = turn_of(chance, len(rows))
                self.assertIs(shows_short(rows, (multiplied(turn, rows), turn, back)), False)
                for thing in STRANGE:
                    self.assertIs(shows_short(rows, thing), False)

    def test_strange_things(self):
        for steps in (((1,),), ((1, 0), (0, 1)), ((2, 1, 0), (1, 2, 0), (0, 0, 1))):
            check_refuses_strange(self, lambda thing: shows_short(steps, thing), 10)
            for thing in BEYOND:
                self.assertIs(shows_short(steps, thing), False)

    def test_bent_once_or_more(self):
        chance = source(11)
        seen = {True: 0, False: 0}
        for steps in self.small_ones():
            for trial in range(60):
                told = short(steps)
                for stroke in range(chance.randint(1, 3)):
                    told = bent(chance, told)
                expected = school_shows_short(steps, told)
                seen[expected] += 1
                self.assertIs(shows_short(steps, told), expected, (steps, told))
                self.assertIs(shows_short(steps, listed(told)), expected, (steps, told))
        self.assertGreater(seen[False], 1000)
        self.assertGreater(seen[True], 0)


if __name__ == "__main__":
    unittest.main()

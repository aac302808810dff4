import unittest
from itertools import product as all_of

from latticeworks.inside import inside
from latticeworks.spaces import (beside, carried, carried_back, flat, is_within, shared, space, times_in, together)
from latticeworks.standing import standing
from tests.helper import (TWELVE_FIGURES, ask, dots, is_in, multiplied, row_of, rows_of, scaled,
                          school_rest, school_standing, sorts_of_rows, source, sum_of, turn_of, units)


def space_of(chance, wide, bound=None):
    """A space of a few rows by chance, maybe none."""
    bound = chance.choice((1, 2, 4, 6)) if bound is None else bound
    return space(wide, rows_of(chance, chance.randint(0, wide + 1), wide, bound))


def small_rows(wide, bound):
    return all_of(range(-bound, bound + 1), repeat=wide)


def sums_of(one, bound):
    """Sums of a space's rows by small weights."""
    for weights in small_rows(len(one[1]), bound):
        yield sum_of(weights, one[1]) if weights else (0,) * one[0]


class Spaces(unittest.TestCase):
    def is_space(self, thing, wide):
        self.assertEqual(len(thing), 2)
        self.assertIs(type(thing[0]), int)
        self.assertEqual(thing[0], wide)
        self.assertTrue(all(len(row) == wide for row in thing[1]))
        self.assertTrue(school_standing(thing[1]))
        return thing

    def asked(self, wide, function, *things):
        return self.is_space(ask(self, function, *things), wide)


class Space(Spaces):
    def test_every_shape_and_sort(self):
        chance = source(1)
        for wide in range(1, 9):
            for many in range(1, 10):
                for rows in sorts_of_rows(chance, many, wide):
                    one = self.asked(wide, space, wide, rows)
                    for row in rows:
                        self.assertTrue(is_in(one[1], row))
                    for row in one[1]:
                        self.assertEqual(inside(rows, row)[0], "told")

    def test_the_same_space_of_other_rows(self):
        chance = source(2)
        for wide in range(1, 9):
            for many in range(1, 10):
                for rows in sorts_of_rows(chance, many, wide)[:4]:
                    one = space(wide, rows)
                    times = chance.randint(-9, 9)
                    k = chance.randrange(many)
                    others = [rows[::-1], tuple(scaled(-1, row) for row in rows), rows + rows[:1],
                              rows + ((0,) * wide,), rows + (sum_of(row_of(chance, many, 3), rows),),
                              multiplied(turn_of(chance, many)[0], rows), one[1] + rows, one[1]]
                    if many > 1:
                        added = sum_of((1, times), (rows[k], rows[k - 1]))
                        others.append(rows[:k] + (added,) + rows[k + 1:])
                    for other in others:
                        self.assertEqual(space(wide, other), one)

    def test_other_spaces(self):
        self.assertNotEqual(space(2, ((1, 0),)), space(2, ((2, 0),)))
        self.assertNotEqual(space(2, ((1, 0),)), space(2, ((1, 1),)))
        self.assertNotEqual(space(2, ()), space(3, ()))

    def test_without_rows(self):
        for wide in range(1, 9):
            for rows in ((), [], ((0,) * wide,), ((0,) * wide,) * 9):
                self.assertEqual(self.asked(wide, space, wide, rows), (wide, ()))

    def test_written_examples(self):
        self.assertEqual(space(1, ((4,), (6,))), (1, ((2,),)))
        self.assertEqual(space(2, ((2, 4), (3, 5))), (2, ((1, 1), (0, 2))))
        self.assertEqual(space(3, ((0, 0, -7),)), (3, ((0, 0, 7),)))


def pairs(seed, many=150):
    chance = source(seed)
    for trial in range(many):
        wide = chance.randint(1, 4)
        yield space_of(chance, wide), space_of(chance, wide)


class TogetherAndShared(Spaces):
    def test_together_against_sums(self):
        for one, other in pairs(3):
            both = self.asked(one[0], together, one, other)
            for row in one[1] + other[1]:
                self.assertTrue(is_in(both[1], row))
            for row in both[1]:
                self.assertEqual(inside(one[1] + other[1], row)[0], "told")

    def test_shared_against_sums(self):
        seen = {True: 0, False: 0}
        for one, other in pairs(4):
            both = self.asked(one[0], shared, one, other)
            for row in both[1]:
                self.assertTrue(is_in(one[1], row) and is_in(other[1], row))
            for mine, yours in ((one, other), (other, one)):
                for row in sums_of(mine, 2):
                    expected = is_in(yours[1], row)
                    seen[expected] += 1
                    self.assertIs(is_in(both[1], row), expected, (one, other, row))
                for row in mine[1]:
                    for times in range(-60, 61):
                        many = scaled(times, row)
                        self.assertIs(is_in(both[1], many), is_in(yours[1], many), (one, other, many))
        self.assertGreater(min(seen.values()), 1000)

    def test_shared_against_all_small_rows(self):
        for one, other in pairs(5, 60):
            both = shared(one, other)
            for row in small_rows(one[0], 3):
                self.assertIs(is_in(both[1], row), is_in(one[1], row) and is_in(other[1], row))

    def test_together_against_all_small_rows(self):
        for one, other in pairs(6, 40):
            if one[0] > 2:
                continue
            both = together(one, other)
            found = {tuple(a + b for a, b in zip(mine, yours)) for mine in sums_of(one, 6) for yours in sums_of(other, 6)}
            for row in found:
                self.assertTrue(is_in(both[1], row))

    def test_the_other_way_about_and_with_itself(self):
        for one, other in pairs(7):
            wide = one[0]
            nothing, everything = (wide, ()), (wide, units(wide))
            for function in (together, shared):
                self.assertEqual(function(one, other), function(other, one))
                self.assertEqual(function(one, one), one)
            self.assertEqual(together(one, nothing), one)
            self.assertEqual(together(nothing, one), one)
            self.assertEqual(shared(one, nothing), nothing)
            self.assertEqual(shared(nothing, one), nothing)
            self.assertEqual(self.asked(wide, together, one, everything), everything)
            self.assertEqual(self.asked(wide, shared, one, everything), one)
            self.assertEqual(self.asked(wide, together, nothing, nothing), nothing)
            self.assertEqual(self.asked(wide, shared, nothing, nothing), nothing)
            self.assertEqual(shared(one, together(one, other)), one)
            self.assertEqual(together(one, shared(one, other)), one)

    def test_three_of_them(self):
        chance = source(8)
        for trial in range(60):
            wide = chance.randint(1, 6)
            one, other, third = [space_of(chance, wide) for k in range(3)]
            for function in (together, shared):
                self.assertEqual(function(function(one, other), third), function(one, function(other, third)))

    def test_large_ones(self):
        chance = source(9)
        for wide in range(1, 9):
            for many in range(1, 10):
                one = space(wide, rows_of(chance, many, wide, TWELVE_FIGURES))
                other = space(wide, rows_of(chance, chance.randint(1, 9), wide, TWELVE_FIGURES))
                both = self.asked(wide, shared, one, other)
                whole = self.asked(wide, together, one, other)
                self.assertEqual(len(both[1]) + len(whole[1]), len(one[1]) + len(other[1]))
                for row in both[1]:
                    self.assertTrue(is_in(one[1], row) and is_in(other[1], row))
                # What the one leaves out of both together is just what the other leaves out of what they share.
                self.assertEqual(times_in(one, whole), times_in(both, other))

    def test_written_examples(self):
        self.assertEqual(shared((1, ((4,),)), (1, ((6,),))), (1, ((12,),)))
        self.assertEqual(together((1, ((4,),)), (1, ((6,),))), (1, ((2,),)))
        self.assertEqual(shared((2, ((2, 0), (0, 1))), (2, ((1, 0), (0, 3)))), (2, ((2, 0), (0, 3))))
        self.assertEqual(shared((2, ((1, 1),)), (2, ((1, -1),))), (2, ()))
        self.assertEqual(together((2, ((1, 1),)), (2, ((1, -1),))), (2, ((1, 1), (0, 2))))


class BesideAndFlat(Spaces):
    def test_beside_against_all_small_rows(self):
        chance = source(10)
        for trial in range(80):
            wide = chance.randint(1, 5)
            one = space_of(chance, wide, chance.choice((1, 2, 3)))
            other = self.asked(wide, beside, one)
            self.assertEqual(len(other[1]), wide - len(one[1]))
            for row in other[1]:
                self.assertFalse(any(dots(one[1], row)))
            for row in small_rows(wide, 2 if wide > 3 else 4):
                self.assertIs(is_in(other[1], row), not any(dots(one[1], row)), (one, row))

    def test_flat_against_all_small_rows(self):
        chance = source(11)
        for trial in range(80):
            wide = chance.randint(1, 4)
            one = space_of(chance, wide, chance.choice((2, 3)))
            other = self.asked(wide, flat, one)
            self.assertEqual(len(other[1]), len(one[1]))
            self.assertTrue(is_within(one, other))
            # The number of rests brings every row of the flat space into the space.
            times = times_in(one, other)
            for row in small_rows(wide, 2):
                expected = is_in(one[1], scaled(times, row))
                self.assertIs(is_in(other[1], row), expected, (one, row))
                if not expected:
                    self.assertFalse(any(is_in(one[1], scaled(k, row)) for k in range(1, 40)))

    def test_again_and_again(self):
        chance = source(12)
        for wide in range(1, 9):
            for bound in (1, 5, TWELVE_FIGURES):
                for many in range(0, 10, 3):
                    one = space(wide, rows_of(chance, many, wide, bound))
                    once = self.asked(wide, beside, one)
                    level = self.asked(wide, flat, one)
                    self.assertEqual(beside(beside(once)), once)
                    self.assertEqual(beside(once), level)
                    self.assertEqual(flat(level), level)
                    self.assertEqual(flat(once), once)
                    self.assertEqual(beside(level), once)
                    self.assertEqual(shared(once, one), (wide, ()))

    def test_some_times_a_space(self):
        chance = source(13)
        for trial in range(40):
            wide = chance.randint(1, 8)
            one = space_of(chance, wide)
            more = space(wide, [scaled(6, row) for row in one[1]])
            self.assertEqual(beside(more), beside(one))
            self.assertEqual(flat(more), flat(one))

    def test_no_rows_and_all_rows(self):
        for wide in range(1, 9):
            nothing, everything = (wide, ()), (wide, units(wide))
            self.assertEqual(self.asked(wide, beside, nothing), everything)
            self.assertEqual(self.asked(wide, beside, everything), nothing)
            self.assertEqual(self.asked(wide, flat, nothing), nothing)
            self.assertEqual(self.asked(wide, flat, everything), everything)
            tripled = (wide, tuple(scaled(3, row) for row in units(wide)))
            self.assertEqual(flat(tripled), everything)
            self.assertEqual(beside(tripled), nothing)

    def test_written_examples(self):
        self.assertEqual(beside((2, ((2, 4),))), (2, ((2, -1),)))
        self.assertEqual(flat((2, ((2, 4),))), (2, ((1, 2),)))
        self.assertEqual(flat((3, ((2, 0, 2), (0, 3, 0)))), (3, ((1, 0, 1), (0, 1, 0))))


class Carried(Spaces):
    def test_products(self):
        chance = source(14)
        for wide in range(1, 9):
            for to in range(1, 9):
                for bound in (2, TWELVE_FIGURES):
                    one = space_of(chance, wide)
                    rows = rows_of(chance, wide, to, bound)
                    there = self.asked(to, carried, one, rows)
                    made = multiplied(one[1], rows)
                    self.assertEqual(there, (to, standing(made)[0] if made else ()))
                    for weights in (row_of(chance, len(one[1]), 9), (1,) * len(one[1])):
                        if weights:
                            self.assertTrue(is_in(there[1], multiplied((sum_of(weights, one[1]),), rows)[0]))

    def test_unit_rows(self):
        chance = source(15)
        for wide in range(1, 9):
            one = space_of(chance, wide)
            self.assertEqual(self.asked(wide, carried, one, units(wide)), one)
            self.assertEqual(self.asked(wide, carried_back, one, units(wide)), one)
            self.assertEqual(carried((wide, ()), units(wide)), (wide, ()))
            self.assertEqual(carried_back((wide, ()), units(wide)), (wide, ()))

    def test_by_one_and_then_by_another(self):
        chance = source(16)
        for trial in range(60):
            wide, middle, to = [chance.randint(1, 6) for k in range(3)]
            first, second = rows_of(chance, wide, middle, 4), rows_of(chance, middle, to, 4)
            one, other = space_of(chance, wide), space_of(chance, to)
            product = multiplied(first, second)
            self.assertEqual(carried(carried(one, first), second), carried(one, product))
            self.assertEqual(carried_back(carried_back(other, second), first), carried_back(other, product))

    def test_back_against_all_small_rows(self):
        chance = source(17)
        seen = {True: 0, False: 0}
        for trial in range(120):
            many, wide = chance.randint(1, 4), chance.randint(1, 4)
            one = space_of(chance, wide, chance.choice((1, 2, 4)))
            rows = rows_of(chance, many, wide, chance.choice((1, 2)))
            back = self.asked(many, carried_back, one, rows)
            for row in small_rows(many, 2 if many > 3 else 3):
                expected = is_in(one[1], sum_of(row, rows))
                seen[expected] += 1
                self.assertIs(is_in(back[1], row), expected, (one, rows, row))
        self.assertGreater(min(seen.values()), 1000)

    def test_back_and_there_again(self):
        chance = source(18)
        for trial in range(120):
            many, wide = chance.randint(1, 8), chance.randint(1, 8)
            bound = chance.choice((1, 3, TWELVE_FIGURES))
            one = space_of(chance, wide, bound)
            rows = rows_of(chance, many, wide, bound)
            back = self.asked(many, carried_back, one, rows)
            self.assertEqual(carried(back, rows), shared(one, space(wide, rows)))
            mine = space_of(chance, many)
            self.assertTrue(is_within(mine, carried_back(carried(mine, rows), rows)))

    def test_noughts(self):
        for many in range(1, 9):
            for wide in range(1, 9):
                rows = ((0,) * wide,) * many
                self.assertEqual(self.asked(wide, carried, (many, units(many)), rows), (wide, ()))
                self.assertEqual(self.asked(many, carried_back, (wide, ()), rows), (many, units(many)))
                self.assertEqual(carried_back((wide, units(wide)), rows), (many, units(many)))

    def test_of_no_rows_back_is_what_comes_to_noughts(self):
        chance = source(19)
        for trial in range(40):
            many, wide = chance.randint(1, 6), chance.randint(1, 6)
            rows = rows_of(chance, many, wide, 3)
            columns = space(many, tuple(zip(*rows)))
            self.assertEqual(carried_back((wide, ()), rows), beside(columns))

    def test_written_examples(self):
        self.assertEqual(carried((2, ((1, 1),)), ((1, 2, 3), (4, 5, 6))), (3, ((5, 7, 9),)))
        self.assertEqual(carried_back((1, ((6,),)), ((4,),)), (1, ((3,),)))
        self.assertEqual(carried_back((1, ((6,),)), ((2,), (3,))), (2, ((3, 0), (0, 2))))


class WithinAndTimes(Spaces):
    def square_of(self, chance, many, most):
        """A square that has its own numbers on the diagonal and noughts on one side, turned from both sides."""
        diagonal = [chance.randint(1, most) for k in range(many)]
        square = tuple(tuple(diagonal[k] if k == place else chance.randint(-3, 3) if place > k else 0
                             for place in range(many)) for k in range(many))
        times = 1
        for number in diagonal:
            times *= number
        return square, times

    def test_spaces_made_by_a_square(self):
        chance = source(20)
        for trial in range(200):
            wide = chance.randint(1, 8)
            other = space_of(chance, wide, chance.choice((2, TWELVE_FIGURES)))
            many = len(other[1])
            if many == 0:
                continue
            square, times = self.square_of(chance, many, chance.choice((2, 5, TWELVE_FIGURES)))
            made = multiplied(turn_of(chance, many)[0], multiplied(square, multiplied(turn_of(chance, many)[0], other[1])))
            one = space(wide, made)
            self.assertIs(ask(self, is_within, one, other), True)
            self.assertEqual(ask(self, times_in, one, other), times)
            self.assertIs(ask(self, is_within, other, one), times == 1)
            self.assertEqual(ask(self, times_in, other, one), 1 if times == 1 else None)
            for k in range(many):
                less = space(wide, made[:k] + made[k + 1:])
                self.assertIs(is_within(less, other), True)
                self.assertIs(is_within(less, one), True)
                self.assertIs(ask(self, times_in, less, other), None)
                self.assertIs(ask(self, times_in, less, one), None)
                self.assertIs(is_within(one, less), False)

    def test_times_against_rests_one_by_one(self):
        chance = source(21)
        tried = 0
        for trial in range(100):
            wide = chance.randint(1, 3)
            other = space_of(chance, wide, 2)
            many = len(other[1])
            if many == 0:
                continue
            square, times = self.square_of(chance, many, 4)
            one = space(wide, multiplied(square, other[1]))
            if times ** many > 4000:
                continue
            tried += 1
            rests = {school_rest(one[1], sum_of(weights, other[1])) for weights in all_of(range(times), repeat=many)}
            self.assertEqual(times_in(one, other), len(rests))
        self.assertGreater(tried, 40)

    def test_within_against_rows_one_by_one(self):
        seen = {True: 0, False: 0}
        for one, other in list(pairs(22)) + [(shared(one, other), other) for one, other in pairs(23)]:
            expected = all(is_in(other[1], row) for row in sums_of(one, 1))
            seen[expected] += 1
            self.assertIs(ask(self, is_within, one, other), expected)
            if not expected:
                self.assertIs(times_in(one, other), None)
            self.assertIs(expected, together(one, other) == other)
            self.assertIs(expected, shared(one, other) == one)
        self.assertGreater(min(seen.values()), 40)

    def test_not_within(self):
        for one, other in (((1, ((4,),)), (1, ((6,),))), ((2, ((1, 0),)), (2, ((0, 1),))), ((2, ((1, 1),)), (2, ((2, 2),))),
                           ((2, ((1, 0), (0, 1))), (2, ((1, 0),))), ((2, ((1, 0),)), (2, ()))):
            self.assertIs(ask(self, is_within, one, other), False)
            self.assertIs(ask(self, times_in, one, other), None)

    def test_unlike_widths(self):
        # Rows of another width are in no space, be they noughts.
        for one, other in (((1, ()), (2, ())), ((2, ()), (1, ((1,),))), ((1, ((1,),)), (2, units(2))),
                           ((2, units(2)), (1, units(1)))):
            self.assertIs(is_within(one, other), False)
            self.assertIs(times_in(one, other), None)

    def test_the_same(self):
        chance = source(24)
        for trial in range(60):
            one = space_of(chance, chance.randint(1, 8), chance.choice((3, TWELVE_FIGURES)))
            self.assertIs(ask(self, is_within, one, one), True)
            self.assertEqual(ask(self, times_in, one, one), 1)

    def test_without_rows(self):
        for wide in range(1, 9):
            nothing = (wide, ())
            self.assertIs(ask(self, is_within, nothing, nothing), True)
            self.assertEqual(ask(self, times_in, nothing, nothing), 1)
            for other in ((wide, units(wide)), (wide, ((5,) * wide,))):
                self.assertIs(is_within(nothing, other), True)
                self.assertIs(ask(self, times_in, nothing, other), None)
                self.assertIs(is_within(other, nothing), False)
                self.assertIs(times_in(other, nothing), None)

    def test_written_examples(self):
        self.assertEqual(times_in((1, ((12,),)), (1, ((4,),))), 3)
        self.assertEqual(times_in((2, ((2, 0), (0, 3))), (2, units(2))), 6)
        self.assertEqual(times_in((2, ((1, 1), (0, 2))), (2, units(2))), 2)
        self.assertEqual(times_in((2, ((3, 3),)), (2, ((1, 1),))), 3)
        self.assertIs(times_in((2, ((3, 3),)), (2, units(2))), None)


if __name__ == "__main__":
    unittest.main()

import unittest
from fractions import Fraction

from latticeworks.errors import NoSteps
from latticeworks.near import near
from latticeworks.nearest import nearest, shortest, shows_nearest, shows_shortest
from latticeworks.treecheck import shows_near
from tests.helper import (BEYOND, STRANGE, SchoolTree, ask, bent, check_refuses_strange, fraction, how_many_to_try,
                          listed, mixed, multiplied, part_of, plain_steps, point_of, refused, row_of,
                          rows_that_are_no_steps, scaled, school_near, school_shows_near, school_square, source,
                          step_shapes, steps_of, sum_of, turn_of, units, weights_to_try, wrong_kinds, wrong_numbers)

MOST_TO_TRY = 20000


def origin(wide):
    return ((0, 1),) * wide


def middle_weights(steps, point):
    """A sum near to the point, of which it isn't known how near: it's only a bound for what is to be tried."""
    return [tries[len(tries) // 2] for tries in weights_to_try(steps, point, Fraction(0))]


def school_nearest(steps, point):
    """The least square and all sums with it, all tried one by one; None where that would be too many."""
    bound = school_square(sum_of(middle_weights(steps, point), steps), point)
    if how_many_to_try(steps, point, bound) > MOST_TO_TRY:
        return None
    rows = school_near(steps, point, bound)
    least = min(school_square(row, point) for row in rows)
    return part_of(least), tuple(row for row in rows if school_square(row, point) == least)


def school_shortest(steps):
    point = origin(len(steps[0]))
    bound = min(school_square(step, point) for step in steps)
    if how_many_to_try(steps, point, bound) > MOST_TO_TRY:
        return None
    rows = [row for row in school_near(steps, point, bound) if any(row)]
    least = min(school_square(row, point) for row in rows)
    return part_of(least), tuple(row for row in rows if school_square(row, point) == least)


def with_noughts(points, wide):
    return tuple(sorted(points + ((0,) * wide,)))


def knit(wide):
    """Steps whose sums are all rows with an even sum."""
    return tuple(tuple(int(place == k) - int(place == k + 1) for place in range(wide)) for k in range(wide - 1)) + (
        (0,) * (wide - 2) + (1, 1),)


class Nearest(unittest.TestCase):
    def check(self, steps, point):
        told = ask(self, nearest, steps, point)
        self.assertEqual(len(told), 3)
        square, points, paper = told
        self.assertGreater(len(points), 0)
        self.assertEqual(list(points), sorted(set(points)))
        for row in points:
            self.assertEqual(part_of(school_square(row, point)), square)
        self.assertTrue(school_shows_near(steps, point, square, points, paper))
        self.assertIs(shows_near(steps, point, square, points, paper), True)
        self.assertIs(shows_nearest(steps, point, told), True)
        return square, points

    def test_all_sums_one_by_one(self):
        chance = source(1)
        seen = {}
        for many, wide in step_shapes(5):
            for size in (1, 4, 5, 30, 800000):
                plain = plain_steps(chance, many, wide, size)
                steps = multiplied(turn_of(chance, many, 8)[0], plain)
                for point in (point_of(chance, wide, 9, 4), point_of(chance, wide, 10 ** 6 - 1, 10 ** 6 - 1),
                              tuple(part_of(Fraction(n, 2)) for n in row_of(chance, wide, 50))):
                    expected = school_nearest(plain, point)
                    told = self.check(steps, point)
                    if expected is not None:
                        self.assertEqual(told, expected)
                        seen[many] = seen.get(many, 0) + 1
        self.assertEqual(sorted(seen), [1, 2, 3, 4, 5])
        self.assertGreater(min(seen.values()), 8)

    def test_points_that_are_sums(self):
        chance = source(2)
        for many, wide in step_shapes(5):
            for bound in (1, 5, 10 ** 6 - 1):
                steps = steps_of(chance, many, wide, bound)
                row = multiplied((row_of(chance, many, 20),), steps)[0]
                self.assertEqual(self.check(steps, tuple((n, 1) for n in row)), ((0, 1), (row,)))

    def test_the_middle_of_a_cell(self):
        chance = source(3)
        for many in range(1, 6):
            for stretch in (1, 3):
                turn = turn_of(chance, many, 20)[0]
                steps = tuple(scaled(stretch, row) for row in turn)
                square, points = self.check(steps, (part_of(Fraction(stretch, 2)),) * many)
                self.assertEqual(square, part_of(Fraction(stretch * stretch * many, 4)))
                self.assertEqual(len(points), 2 ** many)
                self.assertEqual(points[0], (0,) * many)
                self.assertEqual(points[-1], (stretch,) * many)

    def test_written_examples(self):
        self.assertEqual(self.check(((3,),), ((1, 1),)), ((1, 1), ((0,),)))
        self.assertEqual(self.check(((2,),), ((1, 1),)), ((1, 1), ((0,), (2,))))
        self.assertEqual(self.check(((-2,),), ((-7, 3),)), ((1, 9), ((-2,),)))
        self.assertEqual(self.check(((1, 0), (100, 1)), ((1, 2), (1, 3))), ((13, 36), ((0, 0), (1, 0))))
        self.assertEqual(self.check(((1, 1),), ((1, 1), (0, 1))), ((1, 1), ((0, 0), (1, 1))))
        self.assertEqual(self.check(((0, 2, 0),), ((7, 1), (1, 2), (-1, 2))), ((99, 2), ((0, 0, 0),)))
        # Taking each step the number of times that is nearest to its centre leads elsewhere.
        steps = ((1000, 0), (500, 870))
        self.assertEqual(self.check(steps, ((500, 1), (426, 1))), ((444 * 444, 1), ((500, 870),)))
        self.assertEqual(self.check(steps, ((500, 1), (444, 1))), ((426 * 426, 1), ((500, 870),)))
        self.assertEqual(self.check(steps, ((501, 1), (-426, 1))), ((444 * 444 + 1, 1), ((500, -870),)))
        # The deepest holes of the rows with an even sum.
        self.assertEqual(len(self.check(knit(4), ((1, 1), (0, 1), (0, 1), (0, 1)))[1]), 8)
        self.assertEqual(len(self.check(knit(4), ((1, 2),) * 4)[1]), 8)
        self.assertEqual(len(self.check(knit(5), ((1, 1),) + ((0, 1),) * 4)[1]), 10)
        self.assertEqual(len(self.check(knit(5), ((1, 2),) * 5)[1]), 16)

    def test_more_than_three_hundred_are_told(self):
        square, points, paper = nearest(units(9), ((1, 2),) * 9)
        self.assertEqual((square, len(points)), ((9, 4), 512))
        self.assertIs(shows_nearest(units(9), ((1, 2),) * 9, (square, points, paper)), True)

    def test_rows_that_are_no_steps(self):
        chance = source(4)
        for many, wide in step_shapes(5):
            for rows in rows_that_are_no_steps(chance, many, wide, 9):
                refused(self, NoSteps, nearest, rows, ((1, 2),) * wide)
                refused(self, NoSteps, nearest, rows, origin(wide))


class Shortest(unittest.TestCase):
    def check(self, steps):
        told = ask(self, shortest, steps)
        self.assertEqual(len(told), 3)
        square, points, paper = told
        wide = len(steps[0])
        self.assertGreater(len(points), 0)
        self.assertGreater(square[0], 0)
        self.assertEqual(list(points), sorted(set(points)))
        self.assertEqual(points, tuple(scaled(-1, row) for row in reversed(points)))
        for row in points:
            self.assertEqual((sum(n * n for n in row), 1), square)
        self.assertTrue(school_shows_near(steps, origin(wide), square, with_noughts(points, wide), paper))
        self.assertIs(shows_near(steps, origin(wide), square, with_noughts(points, wide), paper), True)
        self.assertIs(shows_shortest(steps, told), True)
        return square, points

    def test_all_sums_one_by_one(self):
        chance = source(5)
        seen = {}
        for many, wide in step_shapes(5):
            for size in (1, 3, 5, 20, 1000, 800000):
                for trial in range(2):
                    plain = plain_steps(chance, many, wide, size)
                    expected = school_shortest(plain)
                    told = self.check(multiplied(turn_of(chance, many, 8)[0], plain))
                    if expected is not None:
                        self.assertEqual(told, expected)
                        seen[many] = seen.get(many, 0) + 1
        self.assertEqual(sorted(seen), [1, 2, 3, 4, 5])
        self.assertGreater(min(seen.values()), 8)

    def test_drawn_ones(self):
        chance = source(12)
        for many, wide in step_shapes(5):
            for bound in (1, 3, 20, 1000, 10 ** 6 - 1):
                steps = steps_of(chance, many, wide, bound)
                told = self.check(steps)
                expected = school_shortest(steps)
                if expected is not None:
                    self.assertEqual(told, expected)

    def test_written_examples(self):
        self.assertEqual(self.check(((3,),)), ((9, 1), ((-3,), (3,))))
        self.assertEqual(self.check(((3, 4),)), ((25, 1), ((-3, -4), (3, 4))))
        self.assertEqual(self.check(((2, 0), (0, 3))), ((4, 1), ((-2, 0), (2, 0))))
        self.assertEqual(self.check(((1, 0), (999999, 5))), ((1, 1), ((-1, 0), (1, 0))))
        self.assertEqual(self.check(((1, 1), (1, -1))), ((2, 1), ((-1, -1), (-1, 1), (1, -1), (1, 1))))
        self.assertEqual(len(self.check(((1, -1, 0), (0, 1, -1)))[1]), 6)
        for n in range(1, 6):
            self.assertEqual(len(self.check(units(n))[1]), 2 * n)
            self.assertEqual(len(self.check(tuple(scaled(7, row) for row in turn_of(source(n), n, 20)[0]))[1]), 2 * n)
        for n in range(2, 6):
            self.assertEqual(len(self.check(knit(n))[1]), 2 * n * (n - 1))
        self.assertEqual(len(self.check(tuple(row + (0,) for row in units(5)))[1]), 10)

    def test_rows_that_are_no_steps(self):
        chance = source(6)
        for many, wide in step_shapes(5):
            for rows in rows_that_are_no_steps(chance, many, wide, 9):
                refused(self, NoSteps, shortest, rows)


def cases():
    """Steps and points, small ones."""
    chance = source(7)
    for many, wide in step_shapes(3) + [(4, 4)]:
        for bound in (1, 3, 12):
            steps = steps_of(chance, many, wide, bound)
            halves = tuple(part_of(Fraction(n, 2)) for n in row_of(chance, wide, 3))
            for point in (point_of(chance, wide, 9, 3), halves):
                yield steps, point


class TheCheckers(unittest.TestCase):
    """Both checkers at once: of the point, and of the noughts where the point is None."""

    def setUp(self):
        self.seen = {True: 0, False: 0}
        self.cases = [(steps, point, nearest(steps, point)) for steps, point in cases()]
        self.cases += [(steps, None, shortest(steps)) for steps, point in cases()]

    def show(self, steps, point, thing):
        return shows_shortest(steps, thing) if point is None else shows_nearest(steps, point, thing)

    def expected(self, steps, point, told, thing):
        """told is right, and thing is so too just where it's the same but for the paper, and its paper is right."""
        if not isinstance(thing, (list, tuple)) or len(thing) != 3:
            return False
        if repr(listed(thing[:2])) != repr(listed(told[:2])):
            return False
        wide = len(steps[0])
        if point is None:
            return school_shows_near(steps, origin(wide), told[0], with_noughts(told[1], wide), thing[2])
        return school_shows_near(steps, point, told[0], told[1], thing[2])

    def same(self, steps, point, told, thing):
        expected = self.expected(steps, point, told, thing)
        self.seen[expected] += 1
        self.assertIs(self.show(steps, point, thing), expected, (steps, point, thing))
        return expected

    def wrong(self, steps, point, told, thing):
        self.assertIs(self.same(steps, point, told, thing), False, (steps, point, thing))

    def test_what_is_told(self):
        for steps, point, told in self.cases:
            for form in (listed, mixed, lambda thing: mixed(thing, True)):
                self.assertIs(self.show(form(steps), point and form(point), form(told)), True)
            if point is None:
                self.assertIs(ask(self, shows_shortest, steps, told), True)
            else:
                self.assertIs(ask(self, shows_nearest, steps, point, told), True)

    def test_papers_for_other_steps_of_the_same_sums(self):
        chance = source(8)
        for steps, point, told in self.cases:
            turn, back = turn_of(chance, len(steps), 4)
            made = multiplied(turn, steps)
            at_point = origin(len(steps[0])) if point is None else point
            tree = SchoolTree(made, at_point, told[0]).tree()
            self.assertIs(self.same(steps, point, told, told[:2] + ((made, turn, back, tree),)), True)
            # The told paper for the other steps, with the turns put right.
            paper = (told[2][0], multiplied(told[2][1], back), multiplied(turn, told[2][2]), told[2][3])
            self.assertIs(self.same(made, point, told, told[:2] + (paper,)), True)
            self.same(made, point, told, told)

    def test_points(self):
        for steps, point, (square, points, paper) in self.cases:
            told = (square, points, paper)
            wide = len(steps[0])
            others = [(), points + ((0,) * wide,), ((0,) * wide,) + points, with_noughts(points, wide), points + points,
                      points + points[-1:], points[:1] + points, points + (steps[0],), None, 1, "ab", points[0]]
            if len(points) > 1:
                others += [points[::-1], points[1:], points[:-1], points[1:] + points[:1]]
            for spoilt in others:
                self.wrong(steps, point, told, (square, spoilt, paper))
                self.wrong(steps, point, told, (square, listed(spoilt), paper))

    def test_squares(self):
        for steps, point, (square, points, paper) in self.cases:
            told = (square, points, paper)
            number = fraction(square)
            others = [part_of(number + more) for more in (1, -1, Fraction(1, 3), Fraction(-1, 1000), 100)]
            others += [scaled(2, square), scaled(-1, square), (0, 0), (0, 2), (0, -1), (square[0], 0), square[0], None,
                       (square[0],), square + (1,), (True, 1), (False, 1), (square[0], True), "11", str(number), ()]
            for spoilt in others:
                if repr(spoilt) != repr(square):
                    self.wrong(steps, point, told, (spoilt, points, paper))

    def test_a_further_sum_with_its_own_square(self):
        for steps, point, (square, points, paper) in self.cases:
            told = (square, points, paper)
            at_point = origin(len(steps[0])) if point is None else point
            for step in steps:
                row = tuple(a + b for a, b in zip(points[0], step))
                own = part_of(school_square(row, at_point))
                if own == square:
                    continue
                self.wrong(steps, point, told, (own, (row,), paper))
                if how_many_to_try(steps, at_point, fraction(own)) > 2000:
                    continue
                rows = school_near(steps, at_point, fraction(own))
                if len(rows) <= 60:
                    wider = near(steps, at_point, own)
                    self.wrong(steps, point, told, (own,) + wider)
                    self.wrong(steps, point, told, (square,) + wider)
                    self.wrong(steps, point, told, (own, (row,), wider[1]))
                    of_it = tuple(each for each in rows if part_of(school_square(each, at_point)) == own)
                    self.wrong(steps, point, told, (own, of_it, wider[1]))
                    # Its paper, of a greater square, shows the told ones nothing less.
                    self.same(steps, point, told, (square, points, wider[1]))

    def test_no_points(self):
        # A paper that shows rightly that there's nothing so near, which is no answer.
        for steps, point, told in self.cases:
            at_point = origin(len(steps[0])) if point is None else point
            for share in (Fraction(99, 100), Fraction(1, 2)):
                square = part_of(fraction(told[0]) * share)
                points, paper = near(steps, at_point, square)
                if square != told[0]:
                    self.assertEqual(len(points), 1 if point is None else 0)
                    self.wrong(steps, point, told, (square, (), paper))
                    self.wrong(steps, point, told, (square, points, paper))

    def test_the_noughts_are_no_shortest_sum(self):
        for steps, point, told in self.cases:
            wide = len(steps[0])
            if point is None:
                points, paper = near(steps, origin(wide), (0, 1))
                self.wrong(steps, None, told, ((0, 1), points, paper))
                self.wrong(steps, None, told, ((0, 1), (), paper))
                self.assertIs(shows_nearest(steps, origin(wide), ((0, 1), points, paper)), True)

    def test_other_shapes(self):
        for steps, point, told in self.cases:
            square, points, paper = told
            for spoilt in ((square, points), (square, points, paper, ()), (points, square, paper),
                           (square, paper, points),
                           (square, points, paper[:3]), (square, points) + paper, (paper,), (), None, (told,),
                           (square, points, paper[3]), (square, points, None), (square, points, ())):
                self.wrong(steps, point, told, spoilt)

    def test_things_of_other_kinds(self):
        for steps, point, told in self.cases[::4]:
            for spoilt in list(wrong_kinds(told)) + list(wrong_numbers(told)):
                self.same(steps, point, told, spoilt)
        self.assertGreater(self.seen[False], 1000)

    def test_bent_once_or_more(self):
        chance = source(9)
        for steps, point, told in self.cases:
            for trial in range(30):
                thing = told
                for stroke in range(chance.randint(1, 3)):
                    thing = bent(chance, thing)
                self.same(steps, point, told, thing)
                self.same(steps, point, told, listed(thing))
        self.assertGreater(self.seen[False], 1000)

    def test_strange_things(self):
        for steps, point, told in (self.cases[0], self.cases[20], self.cases[-1], self.cases[-20]):
            check_refuses_strange(self, lambda thing: self.show(steps, point, thing), 10)
            for thing in BEYOND:
                self.assertIs(self.show(steps, point, thing), False)
                for k in range(3):
                    self.assertIs(self.show(steps, point, told[:k] + (thing,) + told[k + 1:]), False)

    def test_rows_that_are_no_steps(self):
        chance = source(11)
        for many, wide in step_shapes(4):
            for rows in rows_that_are_no_steps(chance, many, wide, 3):
                one = units(len(rows))
                point = origin(wide)
                for tree in ((), (0, ()), (0, ((),)), (0, ((0, ((),)),))):
                    paper = (rows, one, one, tree)
                    self.assertIs(shows_nearest(rows, point, ((0, 1), ((0,) * wide,), paper)), False)
                    self.assertIs(shows_shortest(rows, ((1, 1), (units(wide)[0],), paper)), False)
                for thing in STRANGE:
                    self.assertIs(shows_nearest(rows, point, thing), False)
                    self.assertIs(shows_shortest(rows, thing), False)


if __name__ == "__main__":
    unittest.main()

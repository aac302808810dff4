import unittest
from itertools import product as all_of

from latticeworks.answers import answers, small_answers
from latticeworks.plancheck import shows_planned
from latticeworks.plans import planned, planned_under
from tests.helper import (ask, dots, row_of, rows_of, scaled, school_best, school_best_under, school_dot,
                          school_shows_planned, shapes, source, sum_of, turn_of, widened)


def bounds_of(chance, wide, most_rows, far=9, room=60):
    """A low and a high with at most so many rows within."""
    low = row_of(chance, wide, far)
    rooms = []
    many = 1
    for place in range(wide):
        own = chance.randint(0, min(room, max(1, int((most_rows / many) ** (1 / (wide - place)) - 1))))
        rooms.append(own)
        many *= own + 1
    chance.shuffle(rooms)
    return low, tuple(a + b for a, b in zip(low, rooms))


class Plans(unittest.TestCase):
    def setUp(self):
        self.seen = {"told": 0, "none": 0, "no answer": 0}

    def check_told(self, task, told, best):
        self.assertTrue(school_shows_planned(task, told), (task, told))
        paper = told[-1]
        self.assertEqual(paper[0], answers(task[1], task[2]))
        if best is None:
            self.assertEqual((told[0], len(told)), ("none", 2))
        else:
            self.assertEqual(told[:3], ("told",) + best, task)
            self.assertEqual(len(told), 4)
        if paper[0][0] == "none":
            self.assertEqual(told, ("none", (paper[0], ())))
        self.seen["no answer" if paper[0][0] == "none" else told[0]] += 1

    def check(self, *task, best=()):
        """Asks planned and looks at all that it tells; best is () where it is to be found here."""
        if best == ():
            best = school_best(task)
        told = ask(self, planned, *task)
        self.check_told(task, told, best)
        return told

    def check_under(self, *task, best=()):
        if best == ():
            best = school_best_under(task)
        told = ask(self, planned_under, *task)
        costs, rows, most, low, high = task
        if best is not None:
            best = (best[0], best[1] + tuple(n - school_dot(row, best[1]) for row, n in zip(rows, most)))
        self.check_told(widened(task), told, best)
        self.assertEqual(told, planned(*widened(task)))
        return told


class Planned(Plans):
    def test_every_shape(self):
        chance = source(1)
        for many, wide in shapes():
            for bound in (0, 1, 3, 1000, 10 ** 6 - 1):
                low, high = bounds_of(chance, wide, 700)
                rows = rows_of(chance, many, wide, bound)
                inner = tuple(chance.randint(a, b) for a, b in zip(low, high))
                costs = row_of(chance, wide, chance.choice((0, 1, 5, 10 ** 6 - 1)))
                self.check(costs, rows, dots(rows, inner), low, high)
                self.check(costs, rows, row_of(chance, many, 3), low, high)
        self.assertGreater(min(self.seen.values()), 50)

    def test_few_equations_and_much_room(self):
        chance = source(2)
        for wide in range(1, 9):
            for trial in range(12):
                low, high = bounds_of(chance, wide, 4000)
                rows = rows_of(chance, chance.randint(1, 2), wide, chance.choice((1, 2, 4)))
                inner = tuple(chance.randint(a, b) for a, b in zip(low, high))
                costs = row_of(chance, wide, chance.choice((1, 2, 9)))
                self.check(costs, rows, dots(rows, inner), low, high)
        self.assertGreater(self.seen["told"], 80)

    def test_costs_of_each_sort(self):
        chance = source(3)
        for wide in range(1, 6):
            for trial in range(4):
                low, high = bounds_of(chance, wide, 1500)
                rows = rows_of(chance, 1, wide, 2)
                due = dots(rows, tuple(chance.randint(a, b) for a, b in zip(low, high)))
                costs = row_of(chance, wide, 9)
                plus = tuple(abs(n) for n in costs)
                for each in (costs, scaled(-1, costs), plus, scaled(-1, plus), (0,) * wide, (1,) * wide, (-1,) * wide,
                             (7,) * wide, (1,) + (0,) * (wide - 1), (0,) * (wide - 1) + (1,), rows[0],
                             scaled(-3, rows[0])):
                    self.check(each, rows, due, low, high)

    def test_several_of_the_least_cost(self):
        # Whatever is cheapest, the first as rows rise.
        self.assertEqual(self.check((1, 1), ((1, 1),), (5,), (0, 0), (9, 9))[1:3], (5, (0, 5)))
        self.assertEqual(self.check((0, 0), ((1, 1),), (5,), (0, 0), (9, 9))[1:3], (0, (0, 5)))
        self.assertEqual(self.check((-1, -1), ((1, 1),), (5,), (-3, -9), (9, 7))[1:3], (-5, (-2, 7)))
        self.assertEqual(self.check((2, 3, 5), ((0, 0, 0),), (0,), (-1, 0, 2), (4, 4, 4))[1:3], (8, (-1, 0, 2)))
        self.assertEqual(self.check((0, 0, 0), ((0, 0, 0),), (0,), (-1, 0, 2), (4, 4, 4))[1:3], (0, (-1, 0, 2)))
        self.assertEqual(self.check((1, 2, 1), ((1, 1, 0), (0, 1, 1)), (4, 4), (0,) * 3, (4,) * 3)[1:3], (8, (0, 4, 0)))
        self.assertEqual(self.check((1, 1, 2), ((1, 1, 1),), (2,), (0,) * 3, (2,) * 3)[1:3], (2, (0, 2, 0)))

    def test_written_examples(self):
        # Coins: as few as may be, and the ones that cost most.
        self.assertEqual(self.check((1, 1, 1), ((1, 5, 11),), (15,), (0,) * 3, (15,) * 3)[1:3], (3, (0, 3, 0)))
        self.assertEqual(self.check((-1, -1, -1), ((1, 5, 11),), (15,), (0,) * 3, (15,) * 3)[1:3], (-15, (15, 0, 0)))
        self.assertEqual(self.check((1,), ((3,),), (12,), (0,), (60,))[1:3], (4, (4,)))
        self.assertEqual(self.check((1,), ((3,),), (12,), (4,), (4,))[1:3], (4, (4,)))

    def test_no_answer_at_all(self):
        for task in (((1,), ((3,),), (13,), (0,), (60,)), ((1, 1), ((2, 4),), (7,), (0, 0), (9, 9)),
                     ((0, 0), ((0, 0),), (1,), (0, 0), (9, 9)), ((1, 1), ((1, 1), (1, 1)), (1, 2), (0, 0), (9, 9)),
                     ((1, 1), ((2, 4),), (7,), (0, 0), (9, -9))):
            told = self.check(*task)
            self.assertEqual(told, ("none", (answers(task[1], task[2]), ())))
        self.assertEqual(self.seen["no answer"], 5)

    def test_answers_but_no_plan(self):
        for task in (((1,), ((3,),), (12,), (5,), (60,)), ((1,), ((3,),), (12,), (0,), (3,)),
                     ((1, 1), ((1, 1),), (19,), (0, 0), (9, 9)), ((1, 1), ((1, 1),), (-1,), (0, 0), (9, 9)),
                     ((1, 1), ((1, -1),), (10,), (0, 0), (9, 9)), ((1, 1), ((2, 3),), (1,), (0, 0), (9, 9)),
                     ((1, 2, 3), ((3, 5, 7),), (4,), (0, 0, 0), (9, 9, 9))):
            self.assertEqual(self.check(*task)[0], "none")
        self.assertEqual(self.seen["none"], 7)

    def test_a_high_below_its_low(self):
        chance = source(4)
        for wide in range(1, 5):
            for place in range(wide):
                for below in (1, 5):
                    low, high = bounds_of(chance, wide, 500)
                    high = high[:place] + (low[place] - below,) + high[place + 1:]
                    for rows in (rows_of(chance, 1, wide, 2), ((0,) * wide,), ((1,) * wide, (0,) * wide)):
                        for due in (dots(rows, low), dots(rows, high)):
                            self.check(row_of(chance, wide, 3), rows, due, low, high, best=None)
                            self.check((0,) * wide, rows, due, low, high, best=None)

    def test_bounds_that_let_one_number_alone(self):
        chance = source(5)
        for wide in range(1, 9):
            for bound in (0, 2, 10 ** 6 - 1):
                rows = rows_of(chance, 2, wide, bound)
                plan = row_of(chance, wide, 10 ** 6 - 1)
                costs = row_of(chance, wide, 10 ** 6 - 1)
                due = dots(rows, plan)
                self.check(costs, rows, due, plan, plan, best=(school_dot(costs, plan), plan))
                self.check(costs, rows, (due[0], due[1] + 1), plan, plan, best=None)

    def test_bounds_of_six_figures_and_much_room(self):
        chance = source(6)
        for wide in (1, 2, 3):
            for bound in (1, 9, 10 ** 6 - 1):
                for trial in range(3 if wide < 3 else 1):
                    low = row_of(chance, wide, 10 ** 6 - 61)
                    high = tuple(n + 60 for n in low)
                    rows = rows_of(chance, 1, wide, bound)
                    inner = tuple(chance.choice((a, b, chance.randint(a, b))) for a, b in zip(low, high))
                    self.check(row_of(chance, wide, 10 ** 6 - 1), rows, dots(rows, inner), low, high)
        for wide in (4, 8):
            # As many equations but one as numbers: the plans lie along a line.
            low = row_of(chance, wide, 10 ** 6 - 61)
            high = tuple(n + 60 for n in low)
            step = (1,) + row_of(chance, wide - 1, 1)
            rows = tuple((-step[k],) + tuple(int(place == k) for place in range(1, wide)) for k in range(1, wide))
            middle = tuple(n + 30 for n in low)
            costs = row_of(chance, wide, 10 ** 6 - 1)
            line = [sum_of((1, times), (middle, step)) for times in range(-30, 31)]
            self.check(costs, rows, dots(rows, middle), low, high,
                       best=min((school_dot(costs, plan), plan) for plan in line))

    def test_nothing_that_binds(self):
        # All numbers are free: each is at its cheaper end, or at its low where it costs nothing.
        chance = source(7)
        for wide in range(1, 9):
            for costs in (row_of(chance, wide, 2), (0,) * wide, row_of(chance, wide, 10 ** 6 - 1)):
                low = row_of(chance, wide, 10 ** 5)
                high = tuple(n + chance.randint(0, 60) for n in low)
                plan = tuple(b if cost < 0 else a for a, b, cost in zip(low, high, costs))
                self.check(costs, ((0,) * wide,), (0,), low, high, best=(school_dot(costs, plan), plan))

    def test_against_small_answers(self):
        chance = source(8)
        for trial in range(30):
            wide = chance.randint(3, 6)
            rows = rows_of(chance, wide - 2, wide, 3)
            low, high = (0,) * wide, (20,) * wide
            due = dots(rows, tuple(chance.randint(0, 20) for place in range(wide)))
            costs = row_of(chance, wide, 9)
            plans = small_answers(rows, due, low, high)
            best = min([(school_dot(costs, plan), plan) for plan in plans], default=None)
            self.check(costs, rows, due, low, high, best=best)

    def test_rows_turned_about(self):
        # The same answers, so the same plan, however the equations are written.
        chance = source(9)
        for trial in range(30):
            wide = chance.randint(2, 4)
            many = chance.randint(1, 4)
            low, high = bounds_of(chance, wide, 400)
            rows = rows_of(chance, many, wide, 3)
            due = dots(rows, tuple(chance.randint(a, b) for a, b in zip(low, high)))
            costs = row_of(chance, wide, 5)
            told = self.check(costs, rows, due, low, high)
            turn = turn_of(chance, many)[0]
            turned = tuple(sum_of(weights, rows) for weights in turn)
            again = self.check(costs, turned, tuple(school_dot(weights, due) for weights in turn), low, high)
            self.assertEqual(again[:3], told[:3])

    def test_small_ones_all(self):
        for a, b, due in all_of(range(-2, 3), range(-2, 3), range(-2, 4)):
            for costs in ((1, 1), (-1, 2), (0, 0)):
                self.check(costs, ((a, b),), (due,), (-1, 0), (2, 1))


class PlannedUnder(Plans):
    def test_every_shape(self):
        chance = source(10)
        for many, wide in shapes():
            for bound in (0, 1, 3, 10 ** 6 - 1):
                low, high = bounds_of(chance, wide, 300)
                rows = rows_of(chance, many, wide, bound)
                inner = tuple(chance.randint(a, b) for a, b in zip(low, high))
                costs = row_of(chance, wide, chance.choice((0, 1, 5, 10 ** 6 - 1)))
                most = tuple(n + chance.randint(0, 5) for n in dots(rows, inner))
                self.assertEqual(self.check_under(costs, rows, most, low, high)[0], "told")
                self.check_under(costs, rows, row_of(chance, many, 3), low, high)
        self.assertGreater(self.seen["told"], 200)
        self.assertGreater(self.seen["none"], 30)
        self.assertEqual(self.seen["no answer"], 0)

    def test_written_examples(self):
        # What weighs 5, 4 and 3 and is worth 10, 40 and 50; ten may be carried.
        told = self.check_under((-10, -40, -50), ((5, 4, 3),), (10,), (0,) * 3, (1,) * 3)
        self.assertEqual(told[1:3], (-90, (0, 1, 1, 3)))
        told = self.check_under((-10, -40, -50), ((5, 4, 3),), (10,), (0,) * 3, (60,) * 3)
        self.assertEqual(told[1:3], (-150, (0, 0, 3, 1)))
        told = self.check_under((1, 1), ((-1, -2), (-3, -1)), (-5, -6), (0, 0), (9, 9))
        self.assertEqual(told[1:3], (4, (1, 3, 2, 0)))
        told = self.check_under((0, 0), ((1, 1),), (5,), (2, 1), (9, 9))
        self.assertEqual(told[1:3], (0, (2, 1, 2)))

    def test_most_below_what_any_row_comes_to(self):
        chance = source(11)
        for trial in range(40):
            wide = chance.randint(1, 5)
            low, high = bounds_of(chance, wide, 300)
            rows = rows_of(chance, chance.randint(1, 3), wide, 4)
            least = [min(school_dot(row, each) for each in all_of(*zip(low, high))) for row in rows]
            k = chance.randrange(len(rows))
            costs = row_of(chance, wide, 4)
            most = least[:k] + [least[k] - chance.choice((1, 2, 10 ** 6))] + least[k + 1:]
            self.assertEqual(self.check_under(costs, rows, most, low, high, best=None)[0], "none")
            # Just what the least row comes to is enough for one equation.
            row = rows[k:k + 1]
            self.assertEqual(self.check_under(costs, row, least[k:k + 1], low, high)[0], "told")
            self.assertEqual(self.check_under(costs, row, [least[k] - 1], low, high)[0], "none")

    def test_a_high_below_its_low(self):
        chance = source(12)
        for wide in range(1, 4):
            for place in range(wide):
                low, high = bounds_of(chance, wide, 300)
                high = high[:place] + (low[place] - 1,) + high[place + 1:]
                rows = rows_of(chance, 2, wide, 3)
                for most in ((100, 100), (0, 0), (-100, 3)):
                    self.check_under(row_of(chance, wide, 3), rows, most, low, high, best=None)

    def test_the_highs_of_the_further_numbers(self):
        self.assertEqual(widened(((1, 2), ((3, -4),), (5,), (-1, -2), (7, 6))),
                         ((1, 2, 0), ((3, -4, 1),), (5,), (-1, -2, 0), (7, 6, 32)))
        self.assertEqual(widened(((1,), ((3,), (1,)), (5, 1), (2,), (7,))),
                         ((1, 0, 0), ((3, 1, 0), (1, 0, 1)), (5, 1), (2, 0, 0), (7, 0, 0)))
        for task in (((1, 2), ((3, -4),), (5,), (-1, -2), (7, 6)), ((1,), ((3,), (1,)), (5, 1), (2,), (7,))):
            self.check_under(*task)

    def test_what_is_told_is_taken(self):
        chance = source(13)
        for trial in range(30):
            wide = chance.randint(1, 4)
            low, high = bounds_of(chance, wide, 300)
            task = (row_of(chance, wide, 5), rows_of(chance, 2, wide, 3), row_of(chance, 2, 9), low, high)
            self.assertIs(shows_planned(*widened(task), planned_under(*task)), True)


if __name__ == "__main__":
    unittest.main()

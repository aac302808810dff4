import unittest
from fractions import Fraction

from latticeworks.answercheck import shows_answers
from latticeworks.answers import answers
from tests.helper import (BEYOND, STRANGE, TWELVE_FIGURES, ask, at, bent, check_refuses_strange, check_told, columns_of,
                          dots, exchanged_rows, fraction, listed, mixed, moved_back, multiplied, negated_row, part_of,
                          put_at, row_of, rows_of, scaled, school_shows_answers, shapes, sorts_of_rows, source,
                          sum_of, tupled, turn_of, units, wrong_kinds, wrong_numbers)


def small_cases(seed, bounds=(1, 3)):
    """Rows, a due and what answers tells of them: told and none, with steps and without."""
    chance = source(seed)
    for many in range(1, 4):
        for wide in range(1, 5):
            for bound in bounds:
                rows = rows_of(chance, many, wide, bound)
                for due in (dots(rows, row_of(chance, wide, 3)), row_of(chance, many, 3)):
                    yield rows, due, answers(rows, due)
    for rows in (((0,),), ((0, 0),), ((0, 0, 0), (0, 0, 0)), ((2, 4),), ((6, 10, 15),), ((1, 0), (0, 1))):
        for number in (0, 1, 7):
            due = (number,) * len(rows)
            yield rows, due, answers(rows, due)


def told_cases(seed):
    return [case for case in small_cases(seed) if case[2][0] == "told"]


def none_cases(seed):
    return [case for case in small_cases(seed) if case[2][0] == "none"]


class Compared(unittest.TestCase):
    def setUp(self):
        self.seen = {True: 0, False: 0}

    def same(self, rows, due, told):
        """The checker tells what the document's words come to."""
        expected = school_shows_answers(rows, due, told)
        self.seen[expected] += 1
        for form in (tupled, listed):
            self.assertIs(shows_answers(rows, due, form(told)), expected, (rows, due, told))
        if expected and told[0] == "told":
            # There's just one form of all answers for noughts, and one answer that's its own rest.
            self.assertEqual(tupled(told[1:3]), answers(rows, due)[1:3])
        return expected

    def wrong(self, rows, due, told):
        self.assertIs(self.same(rows, due, told), False, (rows, due, told))

    def right(self, rows, due, told):
        self.assertIs(self.same(rows, due, told), True, (rows, due, told))


class WhatAnswersTells(Compared):
    def test_every_shape_and_sort(self):
        chance = source(1)
        words = []
        for many, wide in shapes():
            for rows in sorts_of_rows(chance, many, wide):
                inner = dots(rows, row_of(chance, wide, chance.choice((3, 10 ** 6))))
                for due in (inner, row_of(chance, many, chance.choice((2, TWELVE_FIGURES)))):
                    told = answers(rows, due)
                    words.append(told[0])
                    self.assertIs(ask(self, shows_answers, rows, due, told), True)
                    self.right(rows, due, told)
        self.assertGreater(min(words.count("told"), words.count("none")), 100)

    def test_small_ones(self):
        for rows, due, told in small_cases(2):
            self.assertIs(ask(self, shows_answers, rows, due, told), True)
            self.right(rows, due, told)

    def test_another_turn(self):
        chance = source(3)
        moved = 0
        for many, wide in shapes():
            rows = rows_of(chance, many, wide, chance.choice((3, TWELVE_FIGURES)))
            due = dots(rows, row_of(chance, wide, 9))
            name, answer, steps, turn, back = answers(rows, due)
            first = wide - len(steps)
            for k in range(wide):
                for other in range(first, wide):
                    if k == other:
                        continue
                    moved += 1
                    made = moved_back(turn, back, k, chance.choice((-2, 1, 10 ** 9)), other)
                    self.right(rows, due, (name, answer, steps) + made)
                    self.wrong(rows, due, (name, answer, steps, made[0], back))
                    turn, back = made if chance.randrange(2) else (turn, back)
            for k in range(first, wide):
                # The rows behind may stand in any order and with either sign.
                flipped = tuple(scaled(-1, row) for row in columns_of(back)[k:k + 1])
                signs = columns_of(columns_of(back)[:k] + flipped + columns_of(back)[k + 1:])
                self.right(rows, due, (name, answer, steps, negated_row(turn, k), signs))
                order = columns_of(exchanged_rows(columns_of(back), k, first))
                self.right(rows, due, (name, answer, steps, exchanged_rows(turn, k, first), order))
        self.assertGreater(moved, 300)

    def test_rows_of_the_turn_that_stand_may_not_be_moved(self):
        chance = source(4)
        for many, wide in shapes():
            if many == 1 or wide == 1:
                continue
            rows = rows_of(chance, many, wide, 4)
            due = dots(rows, row_of(chance, wide, 9))
            name, answer, steps, turn, back = answers(rows, due)
            for k in range(wide):
                for other in range(wide - len(steps)):
                    if k != other:
                        self.wrong(rows, due, (name, answer, steps) + moved_back(turn, back, k, 10 ** 12, other))
            other = turn_of(chance, wide, 9)
            self.same(rows, due, (name, answer, steps, multiplied(other[0], turn), multiplied(back, other[1])))
            self.same(rows, due, (name, answer, steps) + other)


class Bent(Compared):
    def test_the_answer(self):
        for rows, due, told in told_cases(5):
            answer, steps = told[1:3]
            for step in steps:
                for times in (1, -1, 2, 10 ** 20):
                    self.wrong(rows, due, put_at(told, (1,), sum_of((1, times), (answer, step))))
            for place in range(len(answer)):
                for more in (1, -1):
                    moved = answer[:place] + (answer[place] + more,) + answer[place + 1:]
                    self.wrong(rows, due, put_at(told, (1,), moved))
            self.same(rows, due, put_at(told, (1,), (0,) * len(answer)))
            self.same(rows, due, put_at(told, (1,), scaled(-1, answer)))

    def test_another_due(self):
        for rows, due, told in small_cases(6):
            for place in range(len(due)):
                for more in (1, -1, 2, 6, 10 ** 12):
                    other = due[:place] + (due[place] + more,) + due[place + 1:]
                    self.same(rows, other, told)
                    if told[0] == "told":
                        self.wrong(rows, other, told)
            self.same(rows, (0,) * len(due), told)
            self.same(rows, scaled(2, due), told)
        self.assertGreater(self.seen[True], 10)

    def test_other_rows(self):
        chance = source(7)
        for rows, due, told in small_cases(7):
            self.same(rows_of(chance, len(rows), len(rows[0]), 3), due, told)
            self.same(rows[::-1], due[::-1], told)
            self.same(tuple(scaled(-1, row) for row in rows), scaled(-1, due), told)

    def test_the_steps(self):
        for rows, due, told in told_cases(8):
            steps = told[2]
            wide = len(rows[0])
            for k, step in enumerate(steps):
                self.wrong(rows, due, put_at(told, (2,), steps[:k] + steps[k + 1:]))
                self.wrong(rows, due, put_at(told, (2,), steps[:k] + (step,) + steps[k:]))
                self.wrong(rows, due, put_at(told, (2, k), scaled(2, step)))
                self.wrong(rows, due, put_at(told, (2,), negated_row(steps, k)))
                self.wrong(rows, due, put_at(told, (2, k), (0,) * wide))
                for other in range(len(steps)):
                    if other != k:
                        self.wrong(rows, due, put_at(told, (2,), exchanged_rows(steps, k, other)))
                        self.wrong(rows, due, put_at(told, (2, k), sum_of((1, 10 ** 6), (step, steps[other]))))
            self.wrong(rows, due, put_at(told, (2,), steps + ((0,) * wide,)))
            self.wrong(rows, due, put_at(told, (2,), ((0,) * wide,) + steps))
            if steps:
                self.wrong(rows, due, put_at(told, (2,), ()))
            if steps != units(wide):
                self.wrong(rows, due, put_at(told, (2,), units(wide)))

    def test_steps_that_leave_answers_out(self):
        # Each step and the answer are right by themselves, and still there are further answers.
        told = answers(((0, 0),), (0,))
        self.right(((0, 0),), (0,), told)
        self.wrong(((0, 0),), (0,), ("told", (0, 0), ((2, 0), (0, 1)), told[3], told[4]))
        self.wrong(((0, 0),), (0,), ("told", (1, 0), ((2, 0), (0, 1)), told[3], told[4]))
        self.wrong(((0, 0),), (0,), ("told", (0, 0), ((1, 1), (0, 2)), told[3], told[4]))
        self.wrong(((0, 0),), (0,), ("told", (0, 0), ((1, 0),), told[3], told[4]))

    def test_the_turn(self):
        for rows, due, told in told_cases(9):
            turn, back = told[3:]
            wide = len(turn)
            for k in range(wide):
                for other in range(k):
                    swapped = exchanged_rows(turn, k, other)
                    self.wrong(rows, due, put_at(told, (3,), swapped))
                    right_back = columns_of(exchanged_rows(columns_of(back), k, other))
                    self.same(rows, due, put_at(put_at(told, (3,), swapped), (4,), right_back))
                self.wrong(rows, due, put_at(told, (3,), negated_row(turn, k)))
                flipped = columns_of(negated_row(columns_of(back), k))
                self.same(rows, due, put_at(put_at(told, (3,), negated_row(turn, k)), (4,), flipped))
            self.same(rows, due, put_at(put_at(told, (3,), back), (4,), turn))
            self.same(rows, due, put_at(put_at(told, (3,), units(wide)), (4,), units(wide)))
            doubled = tuple(scaled(2, row) for row in turn)
            self.wrong(rows, due, put_at(told, (3,), doubled))
            self.wrong(rows, due, put_at(put_at(told, (3,), ()), (4,), ()))
        self.assertGreater(self.seen[True], 20)

    def test_parts(self):
        cases = none_cases(10)
        self.assertGreater(len(cases), 10)
        for rows, due, told in cases:
            parts = told[1]
            for k, part in enumerate(parts):
                for more in (1, -1, 7, 10 ** 12):
                    moved = part_of(fraction(part) + more)
                    self.right(rows, due, put_at(told, (1, k), moved))
                for new in (Fraction(0), 2 * fraction(part), -fraction(part), fraction(part) / 2, Fraction(1, 2)):
                    self.same(rows, due, put_at(told, (1, k), part_of(new)))
                self.wrong(rows, due, put_at(told, (1,), parts[:k] + parts[k + 1:]))
                self.wrong(rows, due, put_at(told, (1,), parts[:k] + (part,) + parts[k:]))
            for times in (2, 3, -1, -5):
                self.same(rows, due, put_at(told, (1,), tuple(part_of(times * fraction(part)) for part in parts)))
            self.wrong(rows, due, put_at(told, (1,), ((0, 1),) * len(parts)))
            self.wrong(rows, due, put_at(told, (1,), ((3, 1),) * len(parts)))
        self.assertGreater(self.seen[True], 100)

    def test_the_one_word_for_the_other(self):
        for rows, due, told in small_cases(11):
            for word in ("told", "none", "", "Told", "NONE", "told ", None, True, 0, 1, ("told",), ()):
                self.assertIs(self.same(rows, due, (word,) + told[1:]), word == told[0])
            if told[0] == "told":
                self.wrong(rows, due, ("none", told[1]))
                self.wrong(rows, due, ("none",) + told[1:])
                self.wrong(rows, due, ("none", ((1, 2),) * len(rows)))
            else:
                self.wrong(rows, due, ("told", told[1]))
                wide = len(rows[0])
                self.wrong(rows, due, ("told", (0,) * wide, (), units(wide), units(wide)))

    def test_another_number_at_each_place(self):
        for rows, due, told in small_cases(12, (2,)):
            for spoilt in wrong_numbers(told):
                self.same(rows, due, spoilt)
        self.assertGreater(self.seen[False], 1000)

    def test_bent_by_chance(self):
        chance = source(13)
        for rows, due, told in small_cases(13):
            for trial in range(40):
                once = bent(chance, told)
                self.same(rows, due, once)
                if isinstance(once, tuple) and once:
                    self.same(rows, due, bent(chance, once))


class OtherKinds(Compared):
    def test_things_of_a_wrong_kind_at_each_place(self):
        for rows, due, told in small_cases(14, (2,)):
            for handed in (rows, listed(rows), mixed(rows)):
                check_told(self, lambda thing: shows_answers(handed, due, thing), told)

    def test_strange_things(self):
        for rows, due in ((((2, 3),), (7,)), (((2, 4),), (7,)), (((0,),), (1,)), (((1, 1), (1, -1)), (1, 0))):
            check_refuses_strange(self, lambda thing: shows_answers(rows, due, thing), 15)
            for thing in BEYOND:
                self.assertIs(shows_answers(rows, due, thing), False)

    def test_strange_things_at_each_place(self):
        for rows, due, told in small_cases(16, (2,)):
            for path in [()] + [(k,) for k in range(len(told))] + [(len(told) - 1, 0)]:
                for thing in STRANGE:
                    if tupled(thing) != at(told, path):
                        self.same(rows, due, put_at(told, path, tupled(thing)))

    def test_fractions_that_are_none(self):
        rows, due = ((2, 4),), (7,)
        self.right(rows, due, ("none", ((1, 2),)))
        self.right(rows, due, ("none", ((-3, 2),)))
        self.right(rows, due, ("none", [[5, 2]]))
        for part in ((2, 4), (-1, -2), (1, -2), (1, 0), (0, 0), (0, 1), (1,), (1, 2, 1), (), 1, None, "12", (True, 2),
                     ("1", 2), (1, "2"), (1, None), ((1,), 2), ((1, 2),), (1, 4), (3, 6), (-2, 4)):
            self.wrong(rows, due, ("none", (part,)))
        self.wrong(rows, due, ("none", (1, 2)))
        self.wrong(rows, due, ("none", ()))
        self.wrong(rows, due, ("none", ((1, 2), (1, 2))))

    def test_true_for_one(self):
        rows, due = ((1, 0), (0, 1)), (1, 0)
        told = answers(rows, due)
        self.right(rows, due, told)
        for path in ((1, 0), (3, 0, 0), (3, 1, 1), (4, 0, 0)):
            self.wrong(rows, due, put_at(told, path, True))
        self.wrong(rows, due, put_at(told, (1, 1), False))
        self.wrong(((1, 1),), (1,), ("told", (0, 1), ((True, -1),)) + answers(((1, 1),), (1,))[3:])

    def test_tuples_of_four_and_six(self):
        for rows, due, told in told_cases(17):
            for other in (told[:4], told[:3], told[:2], told[:1], told[1:], told + ((),), told + told[4:], told[:0]):
                self.wrong(rows, due, other)

    def test_wrong_kinds_in_what_is_wide(self):
        chance = source(18)
        rows = rows_of(chance, 3, 6, TWELVE_FIGURES)
        told = answers(rows, dots(rows, row_of(chance, 6, 9)))
        for spoilt in wrong_kinds(told):
            self.assertIs(shows_answers(rows, dots(rows, told[1]), spoilt), False)


if __name__ == "__main__":
    unittest.main()

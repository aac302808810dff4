import unittest
from fractions import Fraction

from latticeworks.answers import answers, small_answers
from latticeworks.dividing import dividing
from latticeworks.errors import LatticeError, NoSheet, NoSteps, TooMany
from latticeworks.inside import inside
from latticeworks.near import near
from latticeworks.nearest import nearest, shortest
from latticeworks.plans import planned, planned_under
from latticeworks.rests import kinds_of_rests
from latticeworks.run import run
from latticeworks.short import short
from latticeworks.spaces import shared, space, together
from latticeworks.standing import standing
from tests.helper import dots, part_of, row_of, rows_of, same_kinds, source


def written(row):
    return " ".join(str(n) for n in row)


def rows_written(rows):
    return " ; ".join(written(row) for row in rows)


def fraction_written(part):
    return str(Fraction(*part))


def point_written(point):
    return " ".join(fraction_written(part) for part in point)


def rows_or_none(rows):
    return rows_written(rows) or "none"


class Runs(unittest.TestCase):
    def told(self, text):
        """The one answer of a sheet of one row."""
        told = run(text)
        self.assertIs(type(told), tuple)
        self.assertTrue(all(type(each) is str for each in told))
        self.assertTrue(same_kinds(run(text), told))
        self.assertEqual(len(told), 1)
        return told[0]

    def check(self, text, expected):
        self.assertEqual(self.told(text), expected, text)


class Written(Runs):
    def test_standing(self):
        self.check("standing 2 4 ; 3 5", "1 1 ; 0 2")
        self.check("standing -3 1", "3 -1")
        self.check("standing 0 0 ; 0 0", "none")
        self.check("standing 0", "none")
        self.check("standing 4 ; 6", "2")

    def test_inside(self):
        self.check("inside 2 4 ; 3 5 : 5 9", "yes")
        self.check("inside 2 4 ; 3 5 : 0 1", "no")
        self.check("inside 0 0 : 0 0", "yes")
        self.check("inside 0 0 : 0 1", "no")

    def test_dividing(self):
        self.check("dividing 4 0 ; 0 6", "2 12")
        self.check("dividing 1 0 ; 0 1", "1 1")
        self.check("dividing 0 0 ; 0 0", "none")
        self.check("dividing -7", "7")

    def test_rests(self):
        self.check("rests 4 0 0 ; 0 6 0", "kinds 2 12 free 1")
        self.check("rests 2 0 0 ; 0 6 0", "kinds 2 6 free 1")
        self.check("rests 1 0 ; 0 1", "kinds free 0")
        self.check("rests 0 0 0", "kinds free 3")
        self.check("rests 5", "kinds 5 free 0")
        # More than 300 rests are nothing that's asked for here.
        self.check("rests 999999999999 0 ; 0 999999999999", "kinds 999999999999 999999999999 free 0")

    def test_short(self):
        self.check("short 1 0 ; 5 2", rows_written(short(((1, 0), (5, 2)))[0]))
        self.check("short 3", "3")
        for text in ("short 0", "short 1 2 ; 2 4", "short 1 ; 2", "short 1 0 ; 0 1 ; 1 1", "short 0 0 ; 1 0"):
            self.check(text, "no steps")

    def test_nearest(self):
        self.check("nearest 1 0 ; 5 2 : 1/2 0", "1/4 : 0 0 ; 1 0")
        self.check("nearest 3 : 7", "1 : 6")
        self.check("nearest 3 : 6", "0 : 6")
        self.check("nearest 3 : -3/2", "9/4 : -3 ; 0")
        self.check("nearest 2 : 2/4", "1/4 : 0")
        self.check("nearest 1 2 ; 2 4 : 0 0", "no steps")
        self.check("nearest 0 : 1/2", "no steps")

    def test_shortest(self):
        self.check("shortest 1 0 ; 5 2", "1 : -1 0 ; 1 0")
        self.check("shortest 3", "9 : -3 ; 3")
        self.check("shortest 0", "no steps")
        self.check("shortest 1 ; 2", "no steps")

    def test_near(self):
        self.check("near 1 0 ; 5 2 : 1/2 0 : 1", "0 0 ; 1 0")
        self.check("near 2 : 1 : 1/2", "none")
        self.check("near 2 : 1 : 0", "none")
        self.check("near 2 : 2 : 0", "2")
        self.check("near 1 : 0 : 22500", "too many")
        self.check("near 1 : 1/2 : 89401/4", rows_written([(n,) for n in range(-149, 151)]))
        self.check("near 1 0 ; 0 1 : 0 0 : 100000", "too many")
        self.check("near 1 0 ; 2 0 : 0 0 : 100000", "no steps")

    def test_answers(self):
        self.check("answers 2 3 : 7", "2 1 : 3 -2")
        self.check("answers 1 0 ; 0 1 : 7 -8", "7 -8 : none")
        self.check("answers 2 4 : 7", "none")
        self.check("answers 0 0 : 0", "0 0 : 1 0 ; 0 1")
        self.check("answers 0 0 : 1", "none")
        self.check("answers 1 1 1 ; 0 1 2 : 6 8", "0 4 2 : 1 -2 1")

    def test_small(self):
        self.check("small 2 3 : 7 : 0 -9 : 9 9", "2 1 ; 5 -1 ; 8 -3")
        self.check("small 2 3 : 7 : 0 2 : 9 9", "none")
        self.check("small 2 4 : 7 : 0 0 : 9 9", "none")
        self.check("small 1 1 : 2 : 1 1 : 0 5", "none")
        self.check("small 0 0 : 0 : 0 0 : 20 20", "too many")

    def test_together(self):
        self.check("together 2 0 : 3 0", "1 0")
        self.check("together 0 0 : 0 0", "none")
        self.check("together 1 1 : 1 -1", "1 1 ; 0 2")
        self.check("together 0 0 ; 0 0 : 0 4", "0 4")

    def test_shared(self):
        self.check("shared 2 0 : 3 0", "6 0")
        self.check("shared 2 0 : 0 3", "none")
        self.check("shared 0 0 : 0 3", "none")
        self.check("shared 4 ; 6 : 3", "6")

    def test_plan(self):
        self.check("plan 1 1 1 : 1 5 11 : 15 : 0 0 0 : 15 15 15", "3 : 0 3 0")
        self.check("plan -1 -1 : 1 1 : 5 : -3 -9 : 9 7", "-5 : -2 7")
        self.check("plan 0 : 1 : 2 : 0 : 5", "0 : 2")
        self.check("plan 1 1 : 2 4 : 7 : 0 0 : 9 9", "none")
        self.check("plan 1 : 3 : 12 : 5 : 60", "none")
        self.check("plan 1 1 : 1 1 : 5 : 0 6 : 9 5", "none")

    def test_under(self):
        self.check("under -10 -40 -50 : 5 4 3 : 10 : 0 0 0 : 1 1 1", "-90 : 0 1 1")
        self.check("under 1 1 : -1 -2 ; -3 -1 : -5 -6 : 0 0 : 9 9", "4 : 1 3")
        self.check("under 5 : 1 ; 1 ; 1 : 3 4 5 : 2 : 9", "10 : 2")
        self.check("under 5 : 1 : 1 : 2 : 9", "none")

    def test_large_numbers(self):
        self.check("standing 999999999999", "999999999999")
        self.check("standing -999999999999 1 ; 0 -999999999999", "999999999999 999999999998 ; 0 999999999999")
        self.check("shared 999999999999 : 999999999998", str(999999999999 * 999999999998))
        self.check("plan 999999999999 : 1 : 1 : 0 : 2", "999999999999 : 1")


class Several(Runs):
    def test_nothing(self):
        for text in ("", "\n", "  \n \n"):
            self.assertEqual(run(text), ())

    def test_refusals_stop_no_other_row(self):
        text = "\n".join(["short 1 ; 2", "standing 2", "", "near 1 : 0 : 22500", "  standing 3  ", "shortest 0",
                          "small 0 0 : 0 : 0 0 : 20 20", "nearest 0 : 1", "near 0 : 1 : 1", "answers 2 : 1",
                          "standing 4"])
        self.assertEqual(run(text), ("no steps", "2", "too many", "3", "no steps", "too many", "no steps", "no steps",
                                     "none", "4"))

    def test_refused_as_a_sheet(self):
        for text, line in (("nothing", 0), ("standing 1\nstanding", 1), ("\n\nstanding 1 ; 2 3", 2), ("standing -0", 0),
                           ("near 1 ; 1 ; 1 ; 1 ; 1 ; 1 : 1 : 1", 0), ("short 0\nshort 1 2 ; 2 4\n\n 1", 3),
                           ("near 1 : 0 : 22500\nnear 1 : 0 : -1", 1), ("inside 1 : 1 2", 0), ("x\ny", 0)):
            with self.assertRaises(LatticeError) as caught:
                run(text)
            self.assertIs(type(caught.exception), NoSheet)
            self.assertEqual(caught.exception.line, line)


class AgainstTheFunctions(Runs):
    """Each word by chance, written here by what the functions themselves tell."""

    def rows_by_chance(self, chance, most=8, wide=None):
        wide = chance.randint(1, 8) if wide is None else wide
        return rows_of(chance, chance.randint(1, most), wide, chance.choice((1, 3, 50, 10 ** 12 - 1)))

    def test_rows_alone(self):
        chance = source(1)
        for trial in range(80):
            rows = self.rows_by_chance(chance)
            text = rows_written(rows)
            self.check("standing " + text, rows_or_none(standing(rows)[0]))
            self.check("dividing " + text, written(dividing(rows)[0]) or "none")
            numbers, frees = kinds_of_rests(rows)
            self.check("rests " + text, " ".join(["kinds"] + [str(n) for n in numbers] + ["free", str(frees)]))
            try:
                expected = rows_written(short(rows)[0])
            except NoSteps:
                expected = "no steps"
            self.check("short " + text, expected)

    def test_rows_and_a_row(self):
        chance = source(2)
        for trial in range(80):
            rows = self.rows_by_chance(chance)
            row = row_of(chance, len(rows[0]), 9)
            if trial % 2:
                row = dots(tuple(zip(*rows)), (1,) * len(rows))
                if max(abs(n) for n in row) >= 10 ** 12:
                    continue
            expected = {"told": "yes", "none": "no"}[inside(rows, row)[0]]
            self.check("inside " + rows_written(rows) + " : " + written(row), expected)

    def test_equations(self):
        chance = source(3)
        for trial in range(80):
            wide = chance.randint(1, 6)
            rows = rows_of(chance, chance.randint(1, 6), wide, chance.choice((1, 3, 1000)))
            due = dots(rows, row_of(chance, wide, 3)) if trial % 3 else row_of(chance, len(rows), 5)
            told = answers(rows, due)
            text = rows_written(rows) + " : " + written(due)
            self.check("answers " + text, "none" if told[0] == "none" else written(told[1]) + " : " + rows_or_none(told[2]))
            low = row_of(chance, wide, 3)
            high = tuple(n + chance.randint(0, 4) for n in low)
            bounds = " : " + written(low) + " : " + written(high)
            try:
                expected = rows_or_none(small_answers(rows, due, low, high))
            except TooMany:
                expected = "too many"
            self.check("small " + text + bounds, expected)
            high = tuple(n + chance.randint(0, 1) for n in low)
            costs = row_of(chance, wide, 4)
            bounds = " : " + written(low) + " : " + written(high)
            for word, function in (("plan", planned), ("under", planned_under)):
                told = function(costs, rows, due, low, high)
                expected = f"{told[1]} : {written(told[2][:wide])}" if told[0] == "told" else "none"
                self.check(word + " " + written(costs) + " : " + text + bounds, expected)

    def test_spaces(self):
        chance = source(4)
        for trial in range(80):
            wide = chance.randint(1, 8)
            one, other = self.rows_by_chance(chance, 8, wide), self.rows_by_chance(chance, 8, wide)
            text = rows_written(one) + " : " + rows_written(other)
            for word, function in (("together", together), ("shared", shared)):
                self.check(word + " " + text, rows_or_none(function(space(wide, one), space(wide, other))[1]))

    def test_points(self):
        chance = source(5)
        seen = set()
        for trial in range(80):
            wide = chance.randint(1, 4)
            rows = rows_of(chance, chance.randint(1, min(5, wide + 1)), wide, chance.choice((1, 3, 9)))
            point = tuple(part_of(Fraction(chance.randint(-30, 30), chance.randint(1, 6))) for k in range(wide))
            square = part_of(Fraction(chance.randint(0, 300), chance.randint(1, 6)))
            text = rows_written(rows) + " : " + point_written(point)
            try:
                told = nearest(rows, point)
                expected = [fraction_written(told[0]) + " : " + rows_written(told[1])]
                told = shortest(rows)
                expected.append(fraction_written(told[0]) + " : " + rows_written(told[1]))
                expected.append(rows_or_none(near(rows, point, square)[0]))
            except NoSteps:
                expected = ["no steps"] * 3
            except TooMany:
                expected.append("too many")
            seen |= {each for each in expected if each[0] in "nt"}
            self.check("nearest " + text, expected[0])
            self.check("shortest " + rows_written(rows), expected[1])
            self.check("near " + text + " : " + fraction_written(square), expected[2])
        self.assertEqual(seen, {"no steps", "too many", "none"})


if __name__ == "__main__":
    unittest.main()

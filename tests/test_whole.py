"""What the document promises over the whole program: its interface, and that nothing handed in or told changes."""

import importlib
import inspect
import unittest
from copy import deepcopy

from latticeworks.errors import LatticeError
from tests.helper import dots, is_told, listed, mixed, row_of, rows_of, same_kinds, source, steps_of, tupled

# How many things each function takes, by its file.
INTERFACE = {
    "fractions": {"part": 2, "plus": 2, "minus": 2, "times": 2, "over": 2, "before": 2, "floor_of": 1, "whole": 1,
                  "is_part": 1},
    "rows": {"sum_by": 3, "product": 2, "turned_over": 2, "unit_rows": 1, "dot": 2, "are_back": 2, "measure": 1,
             "is_rows": 3},
    "standing": {"is_standing": 1, "standing": 1, "shows_standing": 2, "falls": 2},
    "inside": {"inside": 2, "shows_inside": 3},
    "dividing": {"dividing": 1, "shows_dividing": 2},
    "rests": {"kinds_of_rests": 1, "all_rests": 1, "rest_sum": 3, "rest_order": 2},
    "shares": {"shares": 1},
    "short": {"is_short": 1, "short": 1, "shows_short": 2},
    "near": {"near": 3},
    "treecheck": {"shows_near": 5},
    "nearest": {"nearest": 2, "shortest": 1, "shows_nearest": 3, "shows_shortest": 2},
    "answers": {"answers": 2, "small_answers": 4},
    "answercheck": {"shows_answers": 3},
    "spaces": {"space": 2, "together": 2, "shared": 2, "beside": 1, "flat": 1, "carried": 2, "carried_back": 2,
               "is_within": 2, "times_in": 2},
    "sharedcheck": {"shared_paper": 2, "shows_shared": 4},
    "plans": {"planned": 5, "planned_under": 5},
    "plancheck": {"shows_planned": 6},
    "sheet": {"orders_of": 1},
    "run": {"run": 1},
}

TRUTHS = ("before", "is_part", "are_back", "is_rows", "is_standing", "shows_standing", "shows_inside", "shows_dividing",
          "is_short", "shows_short", "shows_near", "shows_nearest", "shows_shortest", "shows_answers", "is_within",
          "shows_shared", "shows_planned")

SHEET = """standing 2 4 ; 3 5
short 1 ; 2
near 1 : 0 : 22500
plan 1 1 1 : 1 5 11 : 15 : 0 0 0 : 15 15 15"""


def function_of(file, name):
    return getattr(importlib.import_module("latticeworks." + file), name)


def call(file, name, *things):
    return function_of(file, name)(*things)


def stage_one_cases(chance):
    rows = rows_of(chance, 3, 3, 5)
    for name in ("plus", "minus", "times", "over", "before"):
        yield "fractions", name, ((1, 2), (-2, 3))
    yield "fractions", "part", (4, -6)
    yield "fractions", "floor_of", ((-7, 2),)
    yield "fractions", "whole", (7,)
    yield "fractions", "is_part", ((1, 2),)
    yield "rows", "sum_by", ((1, -2, 3), rows, 3)
    yield "rows", "product", (rows, rows)
    yield "rows", "turned_over", (rows, 3)
    yield "rows", "unit_rows", (4,)
    yield "rows", "dot", (rows[0], rows[1])
    yield "rows", "are_back", (((1, 1), (0, 1)), ((1, -1), (0, 1)))
    yield "rows", "measure", (rows,)
    yield "rows", "is_rows", (rows, 3, 3)


def form_cases(chance):
    rows, row = rows_of(chance, 3, 4, 5), row_of(chance, 4, 9)
    whole = ((2, 1), (0, 3))
    told = call("standing", "standing", rows)
    yield "standing", "is_standing", (told[0],)
    yield "standing", "standing", (rows,)
    yield "standing", "shows_standing", (rows, told)
    yield "standing", "falls", (told[0], row)
    yield "inside", "inside", (rows, row)
    yield "inside", "inside", (rows, rows[1])
    yield "inside", "shows_inside", (rows, row, call("inside", "inside", rows, row))
    yield "dividing", "dividing", (rows,)
    yield "dividing", "shows_dividing", (rows, call("dividing", "dividing", rows))
    yield "rests", "kinds_of_rests", (rows,)
    yield "rests", "all_rests", (whole,)
    yield "rests", "all_rests", (rows,)
    yield "rests", "rest_sum", (rows, row, row)
    yield "rests", "rest_order", (whole, (1, 1))
    yield "rests", "rest_order", (rows, row)


def step_cases(chance):
    steps = steps_of(chance, 3, 4, 4)
    point, square = ((1, 2), (-7, 3), (0, 1), (5, 1)), (25, 2)
    found = call("near", "near", steps, point, square)
    yield "shares", "shares", (steps,)
    yield "short", "is_short", (steps,)
    yield "short", "short", (steps,)
    yield "short", "shows_short", (steps, call("short", "short", steps))
    yield "near", "near", (steps, point, square)
    yield "treecheck", "shows_near", (steps, point, square) + found
    yield "nearest", "nearest", (steps, point)
    yield "nearest", "shortest", (steps,)
    yield "nearest", "shows_nearest", (steps, point, call("nearest", "nearest", steps, point))
    yield "nearest", "shows_shortest", (steps, call("nearest", "shortest", steps))


def equation_cases(chance):
    rows = rows_of(chance, 2, 4, 3)
    due, low, high = dots(rows, (1, 0, 2, 1)), (0, -1, 0, 0), (3, 3, 3, 2)
    costs = row_of(chance, 4, 5)
    none = (((2, 4),), (7,))
    for each in ((rows, due), none):
        yield "answers", "answers", each
        yield "answercheck", "shows_answers", each + (call("answers", "answers", *each),)
    yield "answers", "small_answers", (rows, due, low, high)
    for each in ((rows, due, low, high), none + ((0, 0), (9, 9)), (rows, due, high, low)):
        task = (costs[:len(each[2])],) + each
        yield "plans", "planned", task
        yield "plans", "planned_under", task
        yield "plancheck", "shows_planned", task + (call("plans", "planned", *task),)


def space_cases(chance):
    rows = rows_of(chance, 2, 3, 4)
    one, other = call("spaces", "space", 3, rows), call("spaces", "space", 3, rows_of(chance, 2, 3, 4))
    yield "spaces", "space", (3, rows)
    yield "spaces", "space", (3, ())
    for name in ("together", "shared", "is_within", "times_in"):
        yield "spaces", name, (one, other)
        yield "spaces", name, (one, one)
    for name in ("beside", "flat"):
        yield "spaces", name, (one,)
    yield "spaces", "carried", (one, rows_of(chance, 3, 2, 4))
    yield "spaces", "carried_back", (one, rows_of(chance, 2, 3, 4))
    paper = call("sharedcheck", "shared_paper", one, other)
    yield "sharedcheck", "shared_paper", (one, other)
    yield "sharedcheck", "shows_shared", (one, other, call("spaces", "shared", one, other), paper)
    yield "sheet", "orders_of", (SHEET,)
    yield "run", "run", (SHEET,)


def all_cases(seed):
    chance = source(seed)
    for cases in (stage_one_cases, form_cases, step_cases, equation_cases, space_cases):
        yield from cases(chance)


class Interface(unittest.TestCase):
    def test_every_function_is_there_with_its_arguments(self):
        for file, functions in INTERFACE.items():
            for name, many in functions.items():
                function = function_of(file, name)
                self.assertEqual(function.__module__, "latticeworks." + file, name)
                needed = [each for each in inspect.signature(function).parameters.values()
                          if each.default is inspect.Parameter.empty]
                self.assertEqual(len(needed), many, name)

    def test_every_function_is_asked_here(self):
        asked = {(file, name) for file, name, things in all_cases(1)}
        self.assertEqual(asked, {(file, name) for file in INTERFACE for name in INTERFACE[file]})

    def test_refusals(self):
        errors = importlib.import_module("latticeworks.errors")
        for name in ("NoSteps", "TooMany"):
            self.assertEqual(getattr(errors, name).__bases__, (LatticeError,))
            self.assertEqual(str(getattr(errors, name)("words")), "words")
        self.assertEqual(errors.NoSheet(3).line, 3)


class Unchanged(unittest.TestCase):
    def test_nothing_handed_in_is_changed_and_all_is_told_in_tuples(self):
        for file, name, things in all_cases(2):
            told = call(file, name, *things)
            if name in TRUTHS:
                self.assertIs(type(told), bool, name)
            else:
                self.assertTrue(is_told(told), name)
            for form in (tupled, listed, mixed, lambda thing: mixed(thing, True)):
                handed = [form(thing) for thing in things]
                kept = deepcopy(handed)
                again = call(file, name, *handed)
                self.assertTrue(same_kinds(handed, kept), name)
                self.assertTrue(same_kinds(again, told), name)

    def test_checkers_take_what_is_told(self):
        for file, name, things in all_cases(3):
            if name.startswith("shows_"):
                self.assertIs(call(file, name, *things), True, name)

    def test_what_was_told_does_not_change_later(self):
        cases = list(all_cases(4))
        handed = [[listed(thing) for thing in things] for file, name, things in cases]
        first = [call(file, name, *things) for (file, name, old), things in zip(cases, handed)]
        kept = deepcopy(first)
        # What was handed in as lists is emptied, and everything asked again the other way about.
        for things in handed:
            for thing in things:
                if isinstance(thing, list):
                    thing.clear()
        again = [call(file, name, *things) for file, name, things in reversed(cases)][::-1]
        self.assertTrue(same_kinds(first, kept))
        self.assertTrue(same_kinds(first, again))


if __name__ == "__main__":
    unittest.main()

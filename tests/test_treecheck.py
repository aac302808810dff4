import unittest
from fractions import Fraction

from latticeworks.near import near
from latticeworks.treecheck import shows_near
from tests.helper import (BEYOND, STRANGE, SchoolTree, ask, at, bent, check_refuses_strange, listed, mixed, multiplied,
                          part_of, paths, point_of, put_at, rows_that_are_no_steps, school_shows_near, source,
                          step_shapes, steps_of, turn_of, units, wrong_kinds, wrong_numbers)


def small_cases(shapes=((4, 4), (4, 5), (5, 5))):
    """Steps, a point and a square with few points, and what near tells of them."""
    chance = source(1)
    for many, wide in step_shapes(3) + list(shapes):
        for bound, square in ((1, (0, 1)), (2, (3, 4)), (2, (2, 1)), (9, (30, 1))):
            if many > 3:
                square = part_of(Fraction(*square) / 3)
            steps = steps_of(chance, many, wide, bound)
            point = point_of(chance, wide, 8, 4)
            told = near(steps, point, square)
            if len(told[0]) <= 8:
                yield steps, point, square, told


def nodes_of(tree):
    """The places of all nodes but the empty ones, from the paper's top."""
    for path in paths(tree):
        here = at(tree, path)
        if isinstance(here, tuple) and len(here) == 2 and type(here[0]) is int:
            yield (3,) + path


class ShowsNear(unittest.TestCase):
    def setUp(self):
        self.seen = {True: 0, False: 0}

    def same(self, steps, point, square, points, paper):
        """The checker tells what the document's words come to."""
        expected = school_shows_near(steps, point, square, points, paper)
        self.seen[expected] += 1
        self.assertIs(shows_near(steps, point, square, points, paper), expected, (steps, point, square, points, paper))
        return expected

    def wrong(self, steps, point, square, points, paper):
        self.assertIs(self.same(steps, point, square, points, paper), False, (steps, point, square, points, paper))

    def test_what_near_tells(self):
        chance = source(2)
        for many, wide in step_shapes(5):
            for bound in (2, 40, 10 ** 6 - 1):
                steps = steps_of(chance, many, wide, bound)
                point = point_of(chance, wide, 10 ** 6 - 1, 10 ** 6 - 1)
                square = part_of(Fraction(bound * bound))
                points, paper = near(steps, point, square)
                self.assertIs(ask(self, shows_near, steps, point, square, points, paper), True)
                self.seen[True] += len(points)
        self.assertGreater(self.seen[True], 100)
        for steps, point, square, told in small_cases():
            self.assertIs(ask(self, shows_near, steps, point, square, *told), True)

    def test_papers_made_for_the_steps_as_they_are(self):
        for steps, point, square, told in small_cases():
            one = units(len(steps))
            for beyond in (0, 1):
                paper = (steps, one, one, SchoolTree(steps, point, square).tree(beyond))
                self.assertIs(ask(self, shows_near, steps, point, square, told[0], paper), True)
                self.assertIs(self.same(steps, point, square, told[0], paper), True)

    def test_papers_made_for_turned_steps(self):
        chance = source(3)
        for steps, point, square, told in small_cases():
            turn, back = turn_of(chance, len(steps), 4)
            made = multiplied(turn, steps)
            tree = SchoolTree(made, point, square).tree()
            self.assertIs(shows_near(steps, point, square, told[0], (made, turn, back, tree)), True)
            self.assertIs(shows_near(made, point, square, told[0], (steps, back, turn, told[1][3])),
                          school_shows_near(made, point, square, told[0], (steps, back, turn, told[1][3])))

    def test_no_points(self):
        for paper in ((((2,),), ((1,),), ((1,),), (1, ())), (((2,),), ((1,),), ((1,),), (0, ((),)))):
            self.assertIs(self.same(((2,),), ((1, 1),), (1, 2), (), paper), True)
            self.assertIs(self.same(((2,),), ((1, 1),), (1, 1), (), paper), False)
            self.assertIs(self.same(((2,),), ((1, 1),), (1, 2), ((0,),), paper), False)

    def test_where_the_tree_must_begin_and_end(self):
        # The only step is 1; the point 5/2; the square lets 2 and 3 in.
        def paper(first, many):
            return (((1,),), ((1,),), ((1,),), (first, ((),) * many))
        for first in range(-3, 9):
            for many in range(0, 9):
                expected = first <= 2 and first + many > 3
                told = self.same(((1,),), ((5, 2),), (1, 4), ((2,), (3,)), paper(first, many))
                self.assertIs(told, expected)
                # None is within, and still the two beyond stand on both sides of the centre.
                expected = first - 1 <= Fraction(5, 2) <= first + many
                self.assertIs(self.same(((1,),), ((5, 2),), (1, 5), (), paper(first, many)), expected)
                # The centre is whole: first - 1 or last may be just there, where that's too far.
                self.assertIs(self.same(((1, 0),), ((2, 1), (1, 1)), (1, 2), (),
                                        (((1, 0),), ((1,),), ((1,),), (first, ((),) * many))),
                              first - 1 <= 2 <= first + many)

    def test_just_at_the_square(self):
        paper = (((1,),), ((1,),), ((1,),), (0, ((),)))
        self.assertIs(self.same(((1,),), ((0, 1),), (0, 1), ((0,),), paper), True)
        self.assertIs(self.same(((1,),), ((0, 1),), (999, 1000), ((0,),), paper), True)
        self.assertIs(self.same(((1,),), ((0, 1),), (1, 1), ((0,),), paper), False)
        self.assertIs(self.same(((1,),), ((0, 1),), (1, 1), ((-1,), (0,), (1,)), paper), False)

    def test_firsts(self):
        for steps, point, square, (points, paper) in small_cases():
            for path in nodes_of(paper[3]):
                first = at(paper, path)[0]
                for new in (first + 1, first - 1, first + 10 ** 30):
                    self.wrong_or_wider(steps, point, square, points, put_at(paper, path + (0,), new))
                for new in (bool(first), True, False, None, str(first), (first,), ()):
                    self.wrong(steps, point, square, points, put_at(paper, path + (0,), new))

    def wrong_or_wider(self, steps, point, square, points, paper):
        self.same(steps, point, square, points, paper)
        self.same(steps, point, square, points, listed(paper))

    def test_children(self):
        for steps, point, square, (points, paper) in small_cases():
            for path in nodes_of(paper[3]):
                children = at(paper, path)[1]
                for k in range(len(children)):
                    left = children[:k] + children[k + 1:]
                    twice = children[:k] + (children[k],) + children[k:]
                    self.wrong(steps, point, square, points, put_at(paper, path + (1,), left))
                    self.wrong_or_wider(steps, point, square, points, put_at(paper, path + (1,), twice))
                    # Left out at the beginning, with first put right, it is the next that's within.
                    moved = (at(paper, path)[0] + 1, children[1:])
                    self.wrong(steps, point, square, points, put_at(paper, path, moved))
                for new in (None, 0, 1, True, "", "ab", (None,), (0,), ("",), ((0,),), ((), (), ()), (((),),)):
                    if new != children:
                        self.wrong_or_wider(steps, point, square, points, put_at(paper, path + (1,), new))
                    self.wrong_or_wider(steps, point, square, points, put_at(paper, path, new))
        self.assertGreater(self.seen[True], 10)

    def test_points(self):
        for steps, point, square, (points, paper) in small_cases():
            wide = len(point)
            far = (10 ** 7,) * wide
            others = [points + (far,), (far,) + points, points + ((),), points + (None,), points + (0,), None, 7, "ab"]
            for k in range(len(points)):
                others += [points[:k] + points[k + 1:], points[:k] + points[k:k + 1] + points[k:],
                           points[:k] + (points[k] + (0,),) + points[k + 1:],
                           points[:k] + (points[k][:-1],) + points[k + 1:]]
                for other in range(k):
                    swapped = list(points)
                    swapped[k], swapped[other] = swapped[other], swapped[k]
                    others.append(tuple(swapped))
            for spoilt in others:
                self.wrong(steps, point, square, spoilt, paper)
            for spoilt in list(wrong_kinds(points)) + list(wrong_numbers(points)):
                if spoilt != points or repr(spoilt) != repr(points):
                    self.wrong(steps, point, square, spoilt, paper)
                    self.assertIs(shows_near(steps, point, square, listed(spoilt), paper), False)

    def test_other_squares(self):
        for steps, point, square, (points, paper) in small_cases():
            for more in (Fraction(1, 100), Fraction(1, 2), 1, 5, 1000):
                less = max(Fraction(0), Fraction(*square) - more)
                self.same(steps, point, part_of(less), points, paper)
                self.same(steps, point, part_of(Fraction(*square) + more), points, paper)
        self.assertGreater(self.seen[True], 10)
        self.assertGreater(self.seen[False], 50)

    def test_numbers_of_made_turn_and_back(self):
        for steps, point, square, (points, paper) in small_cases([(4, 4)]):
            for place in range(3):
                for spoilt in list(wrong_numbers(paper[place])) + list(wrong_kinds(paper[place])):
                    bad = put_at(paper, (place,), spoilt)
                    if repr(bad) != repr(paper):
                        self.wrong(steps, point, square, points, bad)
                        self.assertIs(shows_near(steps, point, square, points, listed(bad)), False)

    def test_a_turn_that_is_none(self):
        steps = ((1, 0), (0, 1))
        twice = ((2, 0), (0, 2))
        tree = SchoolTree(twice, ((0, 1), (0, 1)), (1, 1)).tree()
        for turn, back in ((twice, twice), (twice, steps), (twice, ((1, 0), (0, 1))), (twice, None)):
            self.wrong(steps, ((0, 1), (0, 1)), (1, 1), ((0, 0),), (twice, turn, back, tree))

    def test_the_four_in_another_shape(self):
        for steps, point, square, (points, paper) in small_cases([(4, 4)]):
            made, turn, back, tree = paper
            for spoilt in ((made, turn, back), (made, turn, back, tree, ()), (turn, made, back, tree),
                           (made, turn, tree),
                           (made, turn, back, (tree,)), (made, turn, back, tree[1]), (made, turn, back, ()), (paper,),
                           (tree, made, turn, back), (made, turn, back, None), (steps, turn, back, tree)):
                self.same(steps, point, square, points, spoilt)
            for spoilt in wrong_kinds(paper):
                self.same(steps, point, square, points, spoilt)

    def test_bent_once_or_more(self):
        chance = source(4)
        for steps, point, square, told in small_cases():
            for trial in range(40):
                thing = told
                for stroke in range(chance.randint(1, 3)):
                    thing = bent(chance, thing)
                if not isinstance(thing, tuple) or len(thing) != 2:
                    continue
                self.same(steps, point, square, *thing)
                self.same(steps, point, square, *listed(thing))
                self.same(steps, point, square, *mixed(thing))
        self.assertGreater(self.seen[False], 1000)
        self.assertGreater(self.seen[True], 5)

    def test_rows_that_are_no_steps(self):
        chance = source(5)
        for many, wide in step_shapes(4):
            for rows in rows_that_are_no_steps(chance, many, wide, 3):
                one = units(len(rows))
                point = ((0, 1),) * wide
                trees = ((), (0, ()), (1, ()), (0, ((),)), (0, ((0, ((),)),)), (0, ((0, ((0, ((),)),)),)), None)
                for tree in trees:
                    paper = (rows, one, one, tree)
                    self.assertIs(ask(self, shows_near, rows, point, (0, 1), ((0,) * wide,), paper), False)
                turn, back = turn_of(chance, len(rows), 5)
                paper = (multiplied(turn, rows), turn, back, trees[3])
                self.assertIs(shows_near(rows, point, (1, 4), ((0,) * wide,), paper), False)
                for thing in STRANGE:
                    self.assertIs(shows_near(rows, point, (1, 1), thing, thing), False)

    def test_strange_things(self):
        for steps, point, square in ((((3,),), ((7, 2),), (30, 1)), (((5, 0), (3, 4)), ((1, 2), (20, 3)), (40, 1))):
            points, paper = near(steps, point, square)
            self.assertGreater(len(points), 1)
            check_refuses_strange(self, lambda thing: shows_near(steps, point, square, points, thing), 6)
            check_refuses_strange(self, lambda thing: shows_near(steps, point, square, thing, paper), 7)
            check_refuses_strange(self, lambda thing: shows_near(steps, point, square, points, paper[:3] + (thing,)), 8)
            for thing in BEYOND:
                self.assertIs(shows_near(steps, point, square, points, thing), False)
                self.assertIs(shows_near(steps, point, square, thing, paper), False)
                self.assertIs(shows_near(steps, point, square, points, paper[:3] + (thing,)), False)


if __name__ == "__main__":
    unittest.main()

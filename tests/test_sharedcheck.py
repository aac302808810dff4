import unittest

from latticeworks.sharedcheck import shared_paper, shows_shared
from latticeworks.spaces import shared, space, together
from tests.helper import (BEYOND, STRANGE, TWELVE_FIGURES, are_rows, ask, at, bent, check_refuses_strange, columns_of,
                          exchanged_rows, is_int, is_tuple_of, listed, mixed, moved_back, multiplied, negated_row,
                          paths, put_at, rows_of, scaled, school_is_turn, school_standing, source,
                          stands_above_noughts, tupled, turn_of, units, wrong_kinds, wrong_numbers)


def rows_for(one, other):
    noughts = (0,) * one[0]
    return tuple(row + row for row in one[1]) + tuple(row + noughts for row in other[1])


def school_shows_shared(one, other, told, paper):
    """Point 20, by its words."""
    wide = one[0]
    rows = rows_for(one, other)
    if not is_tuple_of(told, 2) or not is_int(told[0]) or told[0] != wide or not are_rows(told[1], None, wide):
        return False
    if not school_standing(told[1]) or not is_tuple_of(paper, 2) or not school_is_turn(paper[0], paper[1], len(rows)):
        return False
    made = multiplied(paper[0], rows)
    many = stands_above_noughts(made)
    if many is None:
        return False
    return tupled(told[1]) == tuple(row[wide:] for row in made[:many] if not any(row[:wide]))


def space_of(chance, wide, bound):
    return space(wide, rows_of(chance, chance.randint(0, wide + 1), wide, bound))


def cases(seed, most=4):
    """Two spaces, what they share, and the paper."""
    chance = source(seed)
    for wide in range(1, most):
        for bound in (1, 2, 6):
            for trial in range(3):
                one, other = space_of(chance, wide, bound), space_of(chance, wide, bound)
                yield one, other, shared(one, other), shared_paper(one, other)
        full, none = (wide, units(wide)), (wide, ())
        for one, other in ((full, none), (none, full), (none, none), (full, full)):
            yield one, other, shared(one, other), shared_paper(one, other)


class Compared(unittest.TestCase):
    def setUp(self):
        self.seen = {True: 0, False: 0}

    def same(self, one, other, told, paper):
        """The checker tells what the document's words come to."""
        expected = school_shows_shared(one, other, told, paper)
        self.seen[expected] += 1
        for form in (tupled, listed):
            self.assertIs(shows_shared(one, other, form(told), form(paper)), expected, (one, other, told, paper))
        if expected:
            self.assertEqual(tupled(told), shared(one, other))
        return expected

    def wrong(self, one, other, told, paper):
        self.assertIs(self.same(one, other, told, paper), False, (one, other, told, paper))

    def right(self, one, other, told, paper):
        self.assertIs(self.same(one, other, told, paper), True, (one, other, told, paper))


class Told(Compared):
    def check(self, one, other):
        told = shared(one, other)
        paper = ask(self, shared_paper, one, other)
        self.assertEqual(len(paper), 2)
        self.assertTrue(school_is_turn(paper[0], paper[1], len(one[1]) + len(other[1])))
        self.assertIs(ask(self, shows_shared, one, other, told, paper), True)
        self.right(one, other, told, paper)

    def test_every_shape(self):
        chance = source(1)
        for wide in range(1, 9):
            for bound in (1, 4, 50, TWELVE_FIGURES):
                for trial in range(4):
                    self.check(space_of(chance, wide, bound), space_of(chance, wide, bound))
        for wide in range(1, 9):
            one = space(wide, rows_of(chance, 8, wide, TWELVE_FIGURES))
            other = space(wide, rows_of(chance, 8, wide, TWELVE_FIGURES))
            self.check(one, other)
            self.check(one, one)

    def test_without_rows(self):
        for wide in range(1, 9):
            full, none, some = (wide, units(wide)), (wide, ()), (wide, ((2,) * wide,))
            for one, other in ((full, none), (none, full), (none, none), (some, none), (none, some), (full, some)):
                self.check(one, other)
            self.assertEqual(shared_paper(none, none), ((), ()))
            self.right(none, none, none, ((), ()))
            self.wrong(none, none, none, (((1,),), ((1,),)))
            self.wrong(none, none, (wide, ((1,) * wide,)), ((), ()))
            self.wrong(none, none, (wide, ((),)), ((), ()))
            self.wrong(none, full, none, ((), ()))

    def test_another_turn(self):
        # The rows of both spaces' forms, so doubled, leave no row of noughts: there's one turn alone.
        chance = source(2)
        for one, other, told, paper in cases(3, 6):
            many = len(one[1]) + len(other[1])
            self.assertEqual(stands_above_noughts(multiplied(paper[0], rows_for(one, other))), many)
            for k in range(many):
                for place in range(many):
                    if k != place:
                        times = chance.choice((-3, 1, 10 ** 9))
                        self.wrong(one, other, told, moved_back(paper[0], paper[1], k, times, place))
        self.assertGreater(self.seen[False], 500)


class Bent(Compared):
    def test_told(self):
        for one, other, told, paper in cases(4):
            wide, form = told
            for k, row in enumerate(form):
                self.wrong(one, other, (wide, form[:k] + form[k + 1:]), paper)
                self.wrong(one, other, (wide, form[:k] + (row,) + form[k:]), paper)
                self.wrong(one, other, put_at(told, (1, k), scaled(2, row)), paper)
                self.wrong(one, other, put_at(told, (1, k), scaled(-1, row)), paper)
                self.wrong(one, other, put_at(told, (1, k), (0,) * wide), paper)
                for place in range(k):
                    self.wrong(one, other, (wide, exchanged_rows(form, k, place)), paper)
            self.wrong(one, other, (wide, form + ((0,) * wide,)), paper)
            self.wrong(one, other, (wide, ((0,) * wide,) + form), paper)
            for width in (wide + 1, wide - 1, 0, -wide, None, True, False, str(wide), (wide,), ()):
                if width is True or width != wide:
                    self.wrong(one, other, (width, form), paper)
            for thing in (together(one, other), one, other, (wide, ()), (wide, units(wide)), form, (form, wide)):
                self.same(one, other, thing, paper)
            longer = (wide, tuple(row + (0,) for row in form))
            self.assertIs(self.same(one, other, longer, paper), not form)
            self.wrong(one, other, told + (form,), paper)
            self.wrong(one, other, told[:1], paper)
        self.assertGreater(self.seen[True], 20)

    def test_true_for_the_width(self):
        one = (1, ((4,),))
        paper = shared_paper(one, one)
        self.right(one, one, (1, ((4,),)), paper)
        self.wrong(one, one, (True, ((4,),)), paper)
        one = (1, ((1,),))
        paper = shared_paper(one, one)
        self.right(one, one, (1, ((1,),)), paper)
        self.wrong(one, one, (1, ((True,),)), paper)

    def test_the_paper(self):
        for one, other, told, paper in cases(5):
            turn, back = paper
            many = len(turn)
            self.same(one, other, told, (back, turn))
            self.same(one, other, told, (units(many), units(many)))
            self.same(one, other, told, (turn, turn))
            for k in range(many):
                self.wrong(one, other, told, (negated_row(turn, k), back))
                self.wrong(one, other, told, (turn, negated_row(back, k)))
                both = (negated_row(turn, k), columns_of(negated_row(columns_of(back), k)))
                self.same(one, other, told, both)
                for place in range(k):
                    self.wrong(one, other, told, (exchanged_rows(turn, k, place), back))
                    order = columns_of(exchanged_rows(columns_of(back), k, place))
                    self.same(one, other, told, (exchanged_rows(turn, k, place), order))
            for new in (paper + ((),), paper[:1], (), (turn[:-1], back), (turn, back[:-1]), (turn[:-1], back[:-1]),
                        (turn + turn[:1], back), (units(many + 1), units(many + 1))):
                self.assertIs(self.same(one, other, told, new), new == paper)
        self.assertGreater(self.seen[True], 10)

    def test_a_sign_turned_in_both(self):
        full = (1, ((1,),))
        self.right(full, (1, ()), (1, ()), (((1,),), ((1,),)))
        self.wrong(full, (1, ()), (1, ()), (((-1,),), ((-1,),)))

    def test_spaces_of_another_pair(self):
        kept = list(cases(6))
        for k, (one, other, told, paper) in enumerate(kept):
            self.same(other, one, told, paper)
            third = kept[k - 1]
            self.same(one, other, third[2], paper)
            self.same(one, other, told, third[3])
            self.same(one, other, third[2], third[3])

    def test_a_number_more(self):
        for one, other, told, paper in cases(7, 3):
            for spoilt in wrong_numbers(told):
                self.wrong(one, other, spoilt, paper)
            for spoilt in wrong_numbers(paper):
                self.same(one, other, told, spoilt)
        self.assertGreater(self.seen[False], 500)

    def test_any_turn(self):
        chance = source(8)
        for one, other, told, paper in cases(8):
            for trial in range(10):
                if paper[0]:
                    turn = turn_of(chance, len(paper[0]), 4)
                    self.same(one, other, told, turn)
                    self.same(one, other, told, (multiplied(turn[0], paper[0]), multiplied(paper[1], turn[1])))

    def test_bent_by_chance(self):
        chance = source(9)
        for one, other, told, paper in cases(9):
            for trial in range(30):
                self.same(one, other, bent(chance, told), paper)
                self.same(one, other, told, bent(chance, paper))
                self.same(one, other, bent(chance, told), bent(chance, paper))


class OtherKinds(Compared):
    def test_a_wrong_kind_at_each_place(self):
        for one, other, told, paper in cases(10, 3):
            for spoilt in wrong_kinds(told):
                self.wrong(one, other, spoilt, paper)
            for spoilt in wrong_kinds(paper):
                self.wrong(one, other, told, spoilt)

    def test_strange_things(self):
        one, other = (2, ((2, 0), (0, 1))), (2, ((1, 1), (0, 2)))
        told, paper = shared(one, other), shared_paper(one, other)
        check_refuses_strange(self, lambda thing: shows_shared(one, other, thing, paper), 11)
        check_refuses_strange(self, lambda thing: shows_shared(one, other, told, thing), 12)
        check_refuses_strange(self, lambda thing: shows_shared(one, other, thing, thing), 13)
        for thing in BEYOND:
            self.assertIs(shows_shared(one, other, thing, paper), False)
            self.assertIs(shows_shared(one, other, told, thing), False)

    def test_strange_things_at_each_place(self):
        for one, other, told, paper in cases(14, 3):
            for path in list(paths(told)):
                for thing in STRANGE:
                    if tupled(thing) != at(told, path):
                        self.same(one, other, put_at(told, path, tupled(thing)), paper)
            for path in [path for path in paths(paper) if len(path) < 3]:
                for thing in STRANGE:
                    if tupled(thing) != at(paper, path):
                        self.same(one, other, told, put_at(paper, path, tupled(thing)))

    def test_mixed(self):
        for one, other, told, paper in cases(15):
            for flip in (False, True):
                self.assertIs(shows_shared(mixed(one, flip), other, mixed(told, flip), mixed(paper, flip)), True)


if __name__ == "__main__":
    unittest.main()

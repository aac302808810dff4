"""What several tests need: rows to try, ways to ask, and things that are not as told."""

from copy import deepcopy
from fractions import Fraction
from itertools import product as all_of
from math import ceil, floor, gcd, isqrt, lcm
from random import Random

from latticeworks.errors import LatticeError, NoSteps, TooMany

TWELVE_FIGURES = 10 ** 12 - 1


def source(seed):
    """A row of numbers that is the same at every run."""
    return Random(seed)


def row_of(chance, wide, bound):
    return tuple(chance.randint(-bound, bound) for place in range(wide))


def rows_of(chance, many, wide, bound):
    return tuple(row_of(chance, wide, bound) for k in range(many))


def multiplied(one, other):
    """The product of rows by the schoolbook, not by the program."""
    wide = len(other[0]) if other else 0
    return tuple(tuple(sum(a * b[k] for a, b in zip(row, other)) for k in range(wide)) for row in one)


def units(n):
    return tuple(tuple(int(k == place) for place in range(n)) for k in range(n))


def turn_of(chance, n, strokes=12):
    """A turn and its back, made of simple strokes."""
    turn = [list(row) for row in units(n)]
    back = [list(row) for row in units(n)]
    for stroke in range(strokes):
        k = chance.randrange(n)
        other = chance.randrange(n)
        if k == other:
            turn[k] = [-number for number in turn[k]]
            for row in back:
                row[k] = -row[k]
            continue
        times = chance.randint(-3, 3)
        turn[k] = [a + times * b for a, b in zip(turn[k], turn[other])]
        for row in back:
            row[other] -= times * row[k]
    return tupled(turn), tupled(back)


def dependent(chance, rows):
    """The rows with some of them noughts, some the same as others, some sums of others."""
    made = [list(row) for row in rows]
    for k in range(len(made)):
        how = chance.randrange(5)
        other = made[chance.randrange(len(made))]
        third = made[chance.randrange(len(made))]
        if how == 0:
            made[k] = [0] * len(other)
        elif how == 1:
            made[k] = list(other)
        elif how == 2:
            made[k] = [2 * a - 3 * b for a, b in zip(other, third)]
    return tupled(made)


def sorts_of_rows(chance, many, wide):
    """Rows of that shape: small ones, ones of 12 figures, dependent ones, noughts."""
    small = rows_of(chance, many, wide, 6)
    large = rows_of(chance, many, wide, TWELVE_FIGURES)
    sparse = tuple(tuple(n if chance.randrange(3) == 0 else 0 for n in row) for row in small)
    nought = tuple((0,) * wide for k in range(many))
    return [small, large, sparse, dependent(chance, small), dependent(chance, large), nought]


def shapes():
    return [(many, wide) for many in range(1, 9) for wide in range(1, 9)]


def tupled(thing):
    if isinstance(thing, (list, tuple)):
        return tuple(tupled(each) for each in thing)
    return thing


def listed(thing):
    if isinstance(thing, (list, tuple)):
        return [listed(each) for each in thing]
    return thing


def mixed(thing, flip=False):
    """Lists and tuples by turns, one within the other."""
    if not isinstance(thing, (list, tuple)):
        return thing
    parts = [mixed(each, flip != (k % 2 == 0)) for k, each in enumerate(thing)]
    return parts if flip else tuple(parts)


def same_kinds(one, other):
    """Equal, and alike in every kind: True is not 1, and a list is not a tuple."""
    if type(one) is not type(other):
        return False
    if isinstance(one, (list, tuple)):
        return len(one) == len(other) and all(same_kinds(a, b) for a, b in zip(one, other))
    return one == other


def is_told(thing):
    """Made of tuples, whole numbers, texts and None alone."""
    if isinstance(thing, tuple):
        return all(is_told(each) for each in thing)
    return thing is None or type(thing) in (int, str)


def ask(test, function, *things):
    """Asks with tuples, lists and both mixed: nothing handed in is changed, and the same is told each time."""
    told = None
    for k, form in enumerate((tupled, listed, mixed, tupled)):
        handed = [form(thing) for thing in things]
        kept = deepcopy(handed)
        answer = function(*handed)
        test.assertTrue(same_kinds(handed, kept), "what was handed in is changed")
        test.assertTrue(type(answer) is bool or is_told(answer), f"not as told: {answer!r}")
        if k > 0:
            test.assertTrue(same_kinds(answer, told), f"told otherwise: {answer!r} and {told!r}")
        told = answer
    return told


STRANGE = (
    None, True, False, "", "told", "none", "1", "12", 0, 1, -1, 7, 10 ** 40, (), [], (0,), [1], (1, 1), [0, 1],
    ((),), [[]], ((), ()), ((1,),), [[0]], ((1, 0), (0, 1)), [(1, 0), [0, 1]], (None,), ("a",), [True], ((True,),),
    ((1, 0), (0, True)), ((1, 0), 7), ((1, 0), "01"), ((1, 0), None), ((1, 0), (0,)), (((1,),),), "ab", ("ab", "cd"),
    (((), (), ()),), [[[[[[[[[[[[]]]]]]]]]]]], ((((((((((((1,),),),),),),),),),),),), ("told",), ("none",),
    ("told", None), ("none", None), ("told", ()), ("none", ()), ("told", 1), ("none", "ab"), (("told",), (1,)),
    ((), (), ()), [[], [], []], ((), (), (), (), ()), (1, 2, 3), (1, 2, 3, 4, 5), "abc", "abcde",
    ("a", "b", "c"), (None,) * 3, (None,) * 5, ((1,), (1,), (1,)), (((1,),), 1, 1),
)

BEYOND = ({}, {1: 2}, {1, 2}, frozenset((1, 2)), object(), len, int, ValueError, range(2), b"ab", Random,
          {0: (1, 0), 1: (0, 1)}, [{}, {}], ({1: 1}, 2), [object()], (len, len))


def strange_thing(chance, depth):
    """A thing put together by chance of all that a checker may be handed."""
    if depth == 0 or chance.randrange(4) == 0:
        return chance.choice((None, True, False, "", "told", "none", "1", 0, 1, -1, 2, 10 ** 30))
    parts = [strange_thing(chance, depth - 1) for k in range(chance.randrange(4))]
    return chance.choice((list, tuple))(parts)


def deep_thing(depth, heart):
    thing = heart
    for k in range(depth):
        thing = [thing] if k % 2 else (thing,)
    return thing


def put_at(thing, path, new):
    """The thing with another one at the path's place."""
    if not path:
        return new
    return thing[:path[0]] + (put_at(thing[path[0]], path[1:], new),) + thing[path[0] + 1:]


def at(thing, path):
    for k in path:
        thing = thing[k]
    return thing


def paths(thing, ahead=()):
    """The places of all things within a thing, itself the first."""
    yield ahead
    if isinstance(thing, tuple):
        for k, each in enumerate(thing):
            yield from paths(each, ahead + (k,))


def wrong_kinds(told):
    """What was told with a thing of a wrong kind, one too few or one too many at each place in turn."""
    for path in paths(told):
        here = at(told, path)
        if isinstance(here, tuple):
            swaps = [None, True, 0, 1, "ab", "", here + (None,), here + ("",), here + (True,), here + ((),),
                     (here, here)]
            if here:
                swaps += [here[:-1], here + here[-1:], here[1:]]
        elif isinstance(here, int):
            swaps = [None, bool(here), True, "1", "", (here,), [here], ()]
        else:
            swaps = [None, True, 0, 1, here + " ", here.upper(), (here,), [here], ""]
        for new in swaps:
            yield put_at(told, path, new)


def wrong_numbers(told):
    """What was told with another number at each number's place in turn."""
    for path in paths(told):
        here = at(told, path)
        if isinstance(here, int):
            for new in (here + 1, here - 1, -here, 2 * here, here + 10 ** 20):
                if new != here:
                    yield put_at(told, path, new)


def bent(chance, thing):
    """A thing of tuples with another thing at some place of it, drawn by chance."""
    path = chance.choice(list(paths(thing)))
    here = at(thing, path)
    swaps = [None, True, False, 0, 1, -1, "", "1", (), (here,), (here, here), strange_thing(chance, 3)]
    if isinstance(here, tuple) and here:
        k = chance.randrange(len(here))
        other = chance.randrange(len(here))
        swapped = list(here)
        swapped[k], swapped[other] = swapped[other], swapped[k]
        swaps = swaps[:2] + [here[:k] + here[k + 1:], here[:k] + here[k:k + 1] + here[k:], tuple(swapped), here[::-1],
                             here + (chance.choice(swaps),), here[:k] + (chance.choice(swaps),) + here[k + 1:]]
    elif type(here) is int:
        swaps = swaps[:4] + [here + 1, here - 1, here + 1, here - 1, -here, bool(here), str(here), here + 10 ** 30]
    return put_at(thing, path, tupled(chance.choice(swaps)))


def check_refuses_strange(test, checker, seed):
    """A checker, with only `told` left to hand in, tells False of all that's strange, and never fails."""
    chance = source(seed)
    for thing in STRANGE:
        test.assertIs(checker(thing), False, repr(thing))
    for trial in range(600):
        thing = strange_thing(chance, chance.randrange(13))
        test.assertIs(checker(thing), False, repr(thing))
    for depth in range(13):
        for heart in (None, True, 0, 1, "", "told", "none"):
            test.assertIs(checker(deep_thing(depth, heart)), False)


def check_told(test, checker, told, others=()):
    """A checker takes what was told, as tuples, as lists and mixed, and nothing of it with a wrong kind in it."""
    for form in (tupled, listed, mixed, lambda thing: mixed(thing, True)):
        test.assertIs(checker(form(told)), True)
    for spoilt in wrong_kinds(told):
        if spoilt not in others:
            test.assertIs(checker(spoilt), False, repr(spoilt))
            test.assertIs(checker(listed(spoilt)), False, repr(spoilt))


def refused(test, error, function, *things):
    """Refused with just this error, which stands straight under LatticeError."""
    for form in (tupled, listed, mixed):
        handed = [form(thing) for thing in things]
        kept = deepcopy(handed)
        with test.assertRaises(LatticeError) as caught:
            function(*handed)
        test.assertIs(type(caught.exception), error)
        test.assertTrue(same_kinds(handed, kept), "what was handed in is changed")
    test.assertEqual(error.__bases__, (LatticeError,))
    test.assertNotEqual(NoSteps, TooMany)


# From here on: steps, points and trees by the words of the document, with Python's own fractions.


def fraction(part):
    return Fraction(part[0], part[1])


def part_of(number):
    number = Fraction(number)
    return (number.numerator, number.denominator)


def point_of(chance, wide, bound, bottom):
    return tuple(part_of(Fraction(chance.randint(-bound, bound), chance.randint(1, bottom))) for k in range(wide))


def school_dot(one, other):
    return sum(a * b for a, b in zip(one, other))


def school_shares(steps):
    """Squares and shares of the own parts; None where the rows are no steps."""
    owns, squares, shares = [], [], []
    for step in steps:
        line = [school_dot(step, own) / square for own, square in zip(owns, squares)]
        own = [Fraction(number) for number in step]
        for share, ahead in zip(line, owns):
            own = [a - share * b for a, b in zip(own, ahead)]
        square = school_dot(own, own)
        if square == 0:
            return None
        owns.append(own)
        squares.append(square)
        shares.append(line)
    return squares, shares


def are_steps(rows):
    return school_shares(rows) is not None


def steps_of(chance, many, wide, bound):
    while True:
        rows = rows_of(chance, many, wide, bound)
        if are_steps(rows):
            return rows


def plain_steps(chance, many, wide, size):
    """Steps that lie nearly at right angles, so that few sums need to be tried."""
    return tuple(tuple(chance.randint(-(size // 4), size // 4) + (size if place == k else 0) for place in range(wide))
                 for k in range(many))


def step_shapes(most=8):
    return [(many, wide) for wide in range(1, most + 1) for many in range(1, wide + 1)]


def scaled(number, row):
    return tuple(number * n for n in row)


def sum_of(weights, rows):
    return tuple(school_dot(weights, column) for column in zip(*rows))


def rows_that_are_no_steps(chance, many, wide, bound):
    """Rows, many of them but where there are more than numbers in a row, with the odd one at every place."""
    yield rows_of(chance, wide + 1, wide, bound)
    yield ((0,) * wide,)
    if many == 1 or many > wide:
        return
    others = steps_of(chance, many - 1, wide, bound)
    odd = [(0,) * wide, others[0], others[-1], scaled(3, others[-1]), scaled(-1, others[0])]
    if many > 2:
        odd += [sum_of((1, 1), others[:2]), sum_of((2, -3), others[-2:])]
    for k in range(many):
        for row in odd:
            yield others[:k] + (row,) + others[k:]
        # No whole numbers of times of the others come to these, but fractions do.
        yield tuple(scaled(6, row) for row in others[:k]) + others[:1] + tuple(scaled(6, row) for row in others[k:])
        if many > 2:
            far = tuple(scaled(6, row) for row in others)
            yield far[:k] + (sum_of((3, 2), others[:2]),) + far[k:]


def school_is_short(steps):
    squares, shares = school_shares(steps)
    half = Fraction(1, 2)
    if any(not -half <= share <= half for line in shares for share in line):
        return False
    return all(squares[k] >= (Fraction(3, 4) - shares[k][k - 1] ** 2) * squares[k - 1] for k in range(1, len(steps)))


def is_int(thing):
    return type(thing) is int


def is_tuple_of(thing, many):
    return isinstance(thing, (list, tuple)) and many in (None, len(thing))


def are_rows(thing, many, wide):
    return is_tuple_of(thing, many) and all(is_tuple_of(row, wide) and all(is_int(n) for n in row) for row in thing)


def school_turned(rows, made, turn, back):
    """Whether turn, a turn with its back, makes these of rows; all three of any kind."""
    many = len(rows)
    if not are_rows(made, many, len(rows[0])) or not are_rows(turn, many, many) or not are_rows(back, many, many):
        return False
    return multiplied(turn, back) == multiplied(back, turn) == units(many) and multiplied(turn, rows) == tupled(made)


def school_square(row, point):
    """The square of a row from a point."""
    return sum((n - fraction(part)) ** 2 for n, part in zip(row, point))


class SchoolTree:
    """Steps, a point and a square, and the trees of these."""

    def __init__(self, made, point, square):
        self.made = made
        self.square = fraction(square)
        self.squares, self.shares = school_shares(made)
        self.times = []
        left = [fraction(part) for part in point]
        owns = self.owns()
        for own, square in zip(owns, self.squares):
            self.times.append(school_dot(left, own) / square)
        for own, times in zip(owns, self.times):
            left = [a - times * b for a, b in zip(left, own)]
        self.spent = school_dot(left, left)

    def owns(self):
        owns = []
        for step, line in zip(self.made, self.shares):
            own = [Fraction(number) for number in step]
            for share, ahead in zip(line, owns):
                own = [a - share * b for a, b in zip(own, ahead)]
            owns.append(own)
        return owns

    def centre(self, k, chosen):
        """chosen are the numbers of times of the steps behind k, in order."""
        return self.times[k] - sum(z * self.shares[k + 1 + i][k] for i, z in enumerate(chosen))

    def cost(self, k, chosen, z):
        return (z - self.centre(k, chosen)) ** 2 * self.squares[k]

    def node_collects(self, node, k, chosen, spent, found):
        """Whether a thing of any kind is a node; puts the rows that are collected into found."""
        if k < 0:
            if spent <= self.square:
                found.append(sum_of(chosen, self.made))
            return is_tuple_of(node, 0)
        if not is_tuple_of(node, 2) or not is_int(node[0]) or not is_tuple_of(node[1], None):
            return False
        first, children = node
        last = first + len(children)
        if not first - 1 <= self.centre(k, chosen) <= last:
            return False
        if any(spent + self.cost(k, chosen, z) <= self.square for z in (first - 1, last)):
            return False
        return all(self.node_collects(child, k - 1, [z] + chosen, spent + self.cost(k, chosen, z), found)
                   for z, child in enumerate(children, start=first))

    def collects(self, tree):
        """The rising points that a tree collects; None where it is none."""
        found = []
        if not self.node_collects(tree, len(self.made) - 1, [], self.spent, found):
            return None
        return tuple(sorted(found))

    def node(self, k, chosen, spent, beyond):
        if k < 0:
            return ()
        first = floor(self.centre(k, chosen))
        while spent + self.cost(k, chosen, first) <= self.square:
            first -= 1
        last = ceil(self.centre(k, chosen))
        while spent + self.cost(k, chosen, last) <= self.square:
            last += 1
        first += 1 - beyond
        last += beyond
        # A centre that is whole and out of reach is first - 1 and last at once.
        last = max(first, last)
        return (first, tuple(self.node(k - 1, [z] + chosen, spent + self.cost(k, chosen, z), beyond)
                             for z in range(first, last)))

    def tree(self, beyond=0):
        """A tree of the test's own making, with so many more children than needed on each side."""
        return self.node(len(self.made) - 1, [], self.spent, beyond)


def school_shows_near(steps, point, square, points, paper):
    if not are_steps(steps) or not are_rows(points, None, len(point)) or not is_tuple_of(paper, 4):
        return False
    made, turn, back, tree = paper
    if not school_turned(steps, made, turn, back):
        return False
    return SchoolTree(tupled(made), point, square).collects(tree) == tupled(points)


def inverse_of(rows):
    """The back by fractions of rows that have one."""
    many = len(rows)
    left = [[Fraction(n) for n in row] + [Fraction(int(k == i)) for i in range(many)] for k, row in enumerate(rows)]
    for place in range(many):
        found = next(k for k in range(place, many) if left[k][place] != 0)
        left[place], left[found] = left[found], left[place]
        left[place] = [n / left[place][place] for n in left[place]]
        for k in range(many):
            if k != place:
                left[k] = [a - left[k][place] * b for a, b in zip(left[k], left[place])]
    return [row[many:] for row in left]


def weights_to_try(steps, point, square):
    """For each step the numbers of times beyond which, whatever the others, no sum is so near to the point."""
    inverse = inverse_of([[school_dot(one, other) for other in steps] for one in steps])
    dots = [school_dot(step, [fraction(part) for part in point]) for step in steps]
    tries = []
    for k, line in enumerate(inverse):
        middle = school_dot(line, dots)
        off = isqrt(floor(line[k] * square)) + 1
        tries.append(range(ceil(middle - off), floor(middle + off) + 1))
    return tries


def school_near(steps, point, square):
    """All sums of steps so near to the point, tried one by one."""
    square = Fraction(square)
    bottom = lcm(*[part[1] for part in point])
    tops = [part[0] * bottom // part[1] for part in point]
    rows = [(0,) * len(point)]
    for step, tries in zip(steps, weights_to_try(steps, point, square)):
        rows = [tuple(a + z * b for a, b in zip(row, step)) for row in rows for z in tries]
    most = square * bottom * bottom
    return tuple(sorted(row for row in rows if sum((n * bottom - top) ** 2 for n, top in zip(row, tops)) <= most))


def how_many_to_try(steps, point, square):
    many = 1
    for tries in weights_to_try(steps, point, Fraction(square)):
        many *= len(tries)
    return many


# From here on: standing rows, answers, spaces and plans by the words of the document.


def school_standing(rows):
    """Whether rows stand, by the words of the document alone."""
    leads = []
    for row in rows:
        places = [place for place, number in enumerate(row) if number != 0]
        if not places:
            return False
        leads.append(places[0])
    for k, lead in enumerate(leads):
        number = rows[k][lead]
        if number <= 0 or any(other >= lead for other in leads[:k]):
            return False
        if any(rows[above][lead] not in range(number) for above in range(k)):
            return False
    return True


def lead(row):
    """The place of the first number that isn't nought; None where all are."""
    return next((place for place, number in enumerate(row) if number != 0), None)


def school_rest(form, row):
    """The rest of a row by a standing form."""
    for each in form:
        place = lead(each)
        times = row[place] // each[place]
        row = tuple(a - times * b for a, b in zip(row, each))
    return tuple(row)


def is_in(form, row):
    return not any(school_rest(form, row))


def are_numbers(thing, many):
    return is_tuple_of(thing, many) and all(is_int(n) for n in thing)


def is_fraction(thing):
    return are_numbers(thing, 2) and thing[1] > 0 and gcd(thing[0], thing[1]) == 1


def columns_of(rows):
    return tuple(zip(*rows))


def dots(rows, row):
    return tuple(school_dot(each, row) for each in rows)


def is_text(thing, text):
    return type(thing) is str and thing == text


def school_is_turn(turn, back, many):
    if not are_rows(turn, many, many) or not are_rows(back, many, many):
        return False
    return multiplied(turn, back) == multiplied(back, turn) == units(many)


def stands_above_noughts(rows):
    """How many rows stand ahead of rows of noughts; None where the rows aren't so."""
    many = 0
    while many < len(rows) and any(rows[many]):
        many += 1
    if not school_standing(rows[:many]) or any(any(row) for row in rows[many:]):
        return None
    return many


def school_parts_show(columns, due, parts):
    if not is_tuple_of(parts, len(due)) or not all(is_fraction(part) for part in parts):
        return False
    numbers = [fraction(part) for part in parts]
    sums = [Fraction(school_dot(numbers, column)).denominator for column in columns]
    return set(sums) == {1} and Fraction(school_dot(numbers, due)).denominator != 1


def school_shows_answers(rows, due, told):
    """Point 17, by its words."""
    wide = len(rows[0])
    nought = (0,) * len(rows)
    if is_tuple_of(told, 2) and is_text(told[0], "none"):
        return school_parts_show(columns_of(rows), due, told[1])
    if not is_tuple_of(told, 5) or not is_text(told[0], "told"):
        return False
    answer, steps, turn, back = told[1:]
    if not are_numbers(answer, wide) or not are_rows(steps, None, wide) or not school_is_turn(turn, back, wide):
        return False
    if dots(rows, answer) != tuple(due) or not school_standing(steps):
        return False
    if school_rest(steps, answer) != tuple(answer) or any(dots(rows, step) != nought for step in steps):
        return False
    many = stands_above_noughts(multiplied(turn, columns_of(rows)))
    return many is not None and all(is_in(steps, row) for row in turn[many:])


def moved_back(turn, back, k, times, other):
    """The turn with some times row other added to row k, and its back put right."""
    turn, back = [list(row) for row in turn], [list(row) for row in back]
    turn[k] = [a + times * b for a, b in zip(turn[k], turn[other])]
    for row in back:
        row[other] -= times * row[k]
    return tupled(turn), tupled(back)


def exchanged_rows(rows, k, other):
    rows = list(rows)
    rows[k], rows[other] = rows[other], rows[k]
    return tuple(rows)


def negated_row(rows, k):
    return rows[:k] + (scaled(-1, rows[k]),) + rows[k + 1:]


# From here on: plans. A task is (costs, rows, due, low, high); best is (cost, plan), or None where there's none.


def within_bounds(low, high):
    return all_of(*[range(least, most + 1) for least, most in zip(low, high)])


def school_best(task):
    """The least cost and the first plan with it, of all rows within the bounds."""
    costs, rows, due, low, high = task
    plans = [row for row in within_bounds(low, high) if all(school_dot(a, row) == n for a, n in zip(rows, due))]
    return min([(school_dot(costs, plan), plan) for plan in plans], default=None)


def school_best_under(task):
    costs, rows, most, low, high = task
    plans = [row for row in within_bounds(low, high) if all(school_dot(a, row) <= n for a, n in zip(rows, most))]
    return min([(school_dot(costs, plan), plan) for plan in plans], default=None)


def widened(task):
    """The task that planned_under makes of one."""
    costs, rows, most, low, high = task
    many = len(rows)
    highs = []
    for row, number in zip(rows, most):
        highs.append(max(0, number - sum(min(a * b, a * c) for a, b, c in zip(row, low, high))))
    wider = tuple(tuple(row) + units(many)[k] for k, row in enumerate(rows))
    return (tuple(costs) + (0,) * many, wider, tuple(most), tuple(low) + (0,) * many, tuple(high) + tuple(highs))


class SchoolPlan:
    """The trees of a task and what is told of it, by the words of point 22."""

    def __init__(self, task, steps, best):
        self.costs, self.rows, self.due, self.low, self.high = task
        self.steps = tupled(steps)
        self.wide = len(self.costs)
        self.best = best
        self.met = False

    def many_fixed(self, taken):
        return lead(self.steps[taken]) if taken < len(self.steps) else self.wide

    def is_out(self, j, row):
        return row[j] < self.low[j] or row[j] > self.high[j]

    def sums(self, numbers, taken, row):
        """The least and the greatest sum that the numbers' products can come to."""
        fixed = self.many_fixed(taken)
        least = most = sum(numbers[j] * row[j] for j in range(fixed))
        for j in range(fixed, self.wide):
            both = (numbers[j] * self.low[j], numbers[j] * self.high[j])
            least += min(both)
            most += max(both)
        return least, most

    def is_row(self, k, taken, row):
        least, most = self.sums(self.rows[k], taken, row)
        return least > self.due[k] or most < self.due[k]

    def is_cost(self, taken, row):
        if self.best is None:
            return False
        cost, plan = self.best
        fixed = self.many_fixed(taken)
        least = self.sums(self.costs, taken, row)[0]
        return least > cost or (least == cost and tuple(row[:fixed]) > tuple(plan[:fixed]))

    def is_here(self, taken, row):
        if self.best is None or taken < len(self.steps) or any(self.is_out(j, row) for j in range(self.wide)):
            return False
        cost, plan = self.best
        own = school_dot(self.costs, row)
        return tuple(row) == tuple(plan) or own > cost or (own == cost and tuple(row) > tuple(plan))

    def taken_times(self, taken, row, times):
        return tuple(a + times * b for a, b in zip(row, self.steps[taken]))

    def is_all(self, node, taken, row):
        if taken == len(self.steps) or not is_int(node[1]) or not is_tuple_of(node[2], None):
            return False
        first, children = node[1:]
        place = lead(self.steps[taken])
        if self.taken_times(taken, row, first - 1)[place] >= self.low[place]:
            return False
        if self.taken_times(taken, row, first + len(children))[place] <= self.high[place]:
            return False
        return all(self.takes(child, taken + 1, self.taken_times(taken, row, times))
                   for times, child in enumerate(children, start=first))

    def takes(self, node, taken, row):
        """Whether a thing of any kind is a node here; notes where the plan itself comes."""
        if not is_tuple_of(node, None) or len(node) not in (1, 2, 3) or type(node[0]) is not str:
            return False
        sort = (node[0], len(node))
        if sort == ("out", 2):
            return is_int(node[1]) and node[1] in range(self.many_fixed(taken)) and self.is_out(node[1], row)
        if sort == ("row", 2):
            return is_int(node[1]) and node[1] in range(len(self.rows)) and self.is_row(node[1], taken, row)
        if sort == ("cost", 1):
            return self.is_cost(taken, row)
        if sort == ("here", 1):
            self.met = self.met or (self.best is not None and tuple(row) == tuple(self.best[1]))
            return self.is_here(taken, row)
        return sort == ("all", 3) and self.is_all(node, taken, row)

    def leaves(self, taken, row):
        """All nodes without children that may stand here."""
        made = [("out", j) for j in range(self.many_fixed(taken)) if self.is_out(j, row)]
        made += [("row", k) for k in range(len(self.rows)) if self.is_row(k, taken, row)]
        made += [("cost",)] if self.is_cost(taken, row) else []
        return made + ([("here",)] if self.is_here(taken, row) else [])

    def tree(self, chance, taken, row, beyond, late=0):
        """A tree of the test's own making, with further children, and ended late so many times of ten."""
        made = self.leaves(taken, row)
        if taken == len(self.steps) or (made and chance.randrange(10) >= late):
            return chance.choice(made)
        place = lead(self.steps[taken])
        size = self.steps[taken][place]
        first = ceil(Fraction(self.low[place] - row[place], size)) - chance.randint(0, beyond)
        last = floor(Fraction(self.high[place] - row[place], size)) + 1 + chance.randint(0, beyond)
        nodes = [self.tree(chance, taken + 1, self.taken_times(taken, row, times), beyond, late)
                 for times in range(first, last)]
        return ("all", first, tuple(nodes))


def school_shows_planned(task, told):
    """Point 23, by its words."""
    costs, rows, due, low, high = task
    if is_tuple_of(told, 4) and is_text(told[0], "told"):
        cost, plan, paper = told[1:]
        if not is_int(cost) or not are_numbers(plan, len(costs)) or dots(rows, plan) != tuple(due):
            return False
        if school_dot(costs, plan) != cost or not all(a <= n <= b for a, n, b in zip(low, plan, high)):
            return False
        best = (cost, tuple(plan))
    elif is_tuple_of(told, 2) and is_text(told[0], "none"):
        best, paper = None, told[1]
    else:
        return False
    if not is_tuple_of(paper, 2) or not school_shows_answers(rows, due, paper[0]):
        return False
    if paper[0][0] == "none":
        return best is None and is_tuple_of(paper[1], 0)
    school = SchoolPlan(task, paper[0][2], best)
    return school.takes(paper[1], 0, tuple(paper[0][1])) and (best is None or school.met)

"""What several tests need: rows to try, ways to ask, and things that are not as told."""

from copy import deepcopy
from random import Random

TWELVE_FIGURES = 10 ** 12 - 1


def source(seed):
    """A row of numbers that is the same at every run."""
    return Random(seed)


def row_of(chance, wide, bound):
    return tuple(chance.randint(-bound, bound) for place in range(wide))


def rows_of(chance, many, wide, bound):
    return tuple(row_of(chance, wide, bound) for k in range(many))


def multiplied(one, other):
    """The product of rows by the schoolbook, not by the program."""
    wide = len(other[0]) if other else 0
    return tuple(tuple(sum(a * b[k] for a, b in zip(row, other)) for k in range(wide)) for row in one)


def units(n):
    return tuple(tuple(int(k == place) for place in range(n)) for k in range(n))


def turn_of(chance, n, strokes=12):
    """A turn and its back, made of simple strokes."""
    turn = [list(row) for row in units(n)]
    back = [list(row) for row in units(n)]
    for stroke in range(strokes):
        k = chance.randrange(n)
        other = chance.randrange(n)
        if k == other:
            turn[k] = [-number for number in turn[k]]
            for row in back:
                row[k] = -row[k]
            continue
        times = chance.randint(-3, 3)
        turn[k] = [a + times * b for a, b in zip(turn[k], turn[other])]
        for row in back:
            row[other] -= times * row[k]
    return tupled(turn), tupled(back)


def dependent(chance, rows):
    """The rows with some of them noughts, some the same as others, some sums of others."""
    made = [list(row) for row in rows]
    for k in range(len(made)):
        how = chance.randrange(5)
        other = made[chance.randrange(len(made))]
        third = made[chance.randrange(len(made))]
        if how == 0:
            made[k] = [0] * len(other)
        elif how == 1:
            made[k] = list(other)
        elif how == 2:
            made[k] = [2 * a - 3 * b for a, b in zip(other, third)]
    return tupled(made)


def sorts_of_rows(chance, many, wide):
    """Rows of that shape: small ones, ones of 12 figures, dependent ones, noughts."""
    small = rows_of(chance, many, wide, 6)
    large = rows_of(chance, many, wide, TWELVE_FIGURES)
    sparse = tuple(tuple(n if chance.randrange(3) == 0 else 0 for n in row) for row in small)
    nought = tuple((0,) * wide for k in range(many))
    return [small, large, sparse, dependent(chance, small), dependent(chance, large), nought]


def shapes():
    return [(many, wide) for many in range(1, 9) for wide in range(1, 9)]


def tupled(thing):
    if isinstance(thing, (list, tuple)):
        return tuple(tupled(each) for each in thing)
    return thing


def listed(thing):
    if isinstance(thing, (list, tuple)):
        return [listed(each) for each in thing]
    return thing


def mixed(thing, flip=False):
    """Lists and tuples by turns, one within the other."""
    if not isinstance(thing, (list, tuple)):
        return thing
    parts = [mixed(each, flip != (k % 2 == 0)) for k, each in enumerate(thing)]
    return parts if flip else tuple(parts)


def same_kinds(one, other):
    """Equal, and alike in every kind: True is not 1, and a list is not a tuple."""
    if type(one) is not type(other):
        return False
    if isinstance(one, (list, tuple)):
        return len(one) == len(other) and all(same_kinds(a, b) for a, b in zip(one, other))
    return one == other


def is_told(thing):
    """Made of tuples, whole numbers, texts and None alone."""
    if isinstance(thing, tuple):
        return all(is_told(each) for each in thing)
    return thing is None or type(thing) in (int, str)


def ask(test, function, *things):
    """Asks with tuples, lists and both mixed: nothing handed in is changed, and the same is told each time."""
    told = None
    for k, form in enumerate((tupled, listed, mixed, tupled)):
        handed = [form(thing) for thing in things]
        kept = deepcopy(handed)
        answer = function(*handed)
        test.assertTrue(same_kinds(handed, kept), "what was handed in is changed")
        test.assertTrue(type(answer) is bool or is_told(answer), f"not as told: {answer!r}")
        if k > 0:
            test.assertTrue(same_kinds(answer, told), f"told otherwise: {answer!r} and {told!r}")
        told = answer
    return told


STRANGE = (
    None, True, False, "", "told", "none", "1", "12", 0, 1, -1, 7, 10 ** 40, (), [], (0,), [1], (1, 1), [0, 1],
    ((),), [[]], ((), ()), ((1,),), [[0]], ((1, 0), (0, 1)), [(1, 0), [0, 1]], (None,), ("a",), [True], ((True,),),
    ((1, 0), (0, True)), ((1, 0), 7), ((1, 0), "01"), ((1, 0), None), ((1, 0), (0,)), (((1,),),), "ab", ("ab", "cd"),
    (((), (), ()),), [[[[[[[[[[[[]]]]]]]]]]]], ((((((((((((1,),),),),),),),),),),),), ("told",), ("none",),
    ("told", None), ("none", None), ("told", ()), ("none", ()), ("told", 1), ("none", "ab"), (("told",), (1,)),
    ((), (), ()), [[], [], []], ((), (), (), (), ()), (1, 2, 3), (1, 2, 3, 4, 5), "abc", "abcde",
    ("a", "b", "c"), (None,) * 3, (None,) * 5, ((1,), (1,), (1,)), (((1,),), 1, 1),
)

BEYOND = ({}, {1: 2}, {1, 2}, frozenset((1, 2)), object(), len, int, ValueError, range(2), b"ab", Random,
          {0: (1, 0), 1: (0, 1)}, [{}, {}], ({1: 1}, 2), [object()], (len, len))


def strange_thing(chance, depth):
    """A thing put together by chance of all that a checker may be handed."""
    if depth == 0 or chance.randrange(4) == 0:
        return chance.choice((None, True, False, "", "told", "none", "1", 0, 1, -1, 2, 10 ** 30))
    parts = [strange_thing(chance, depth - 1) for k in range(chance.randrange(4))]
    return chance.choice((list, tuple))(parts)


def deep_thing(depth, heart):
    thing = heart
    for k in range(depth):
        thing = [thing] if k % 2 else (thing,)
    return thing


def put_at(thing, path, new):
    """The thing with another one at the path's place."""
    if not path:
        return new
    return thing[:path[0]] + (put_at(thing[path[0]], path[1:], new),) + thing[path[0] + 1:]


def at(thing, path):
    for k in path:
        thing = thing[k]
    return thing


def paths(thing, ahead=()):
    """The places of all things within a thing, itself the first."""
    yield ahead
    if isinstance(thing, tuple):
        for k, each in enumerate(thing):
            yield from paths(each, ahead + (k,))


def wrong_kinds(told):
    """What was told with a thing of a wrong kind, one too few or one too many at each place in turn."""
    for path in paths(told):
        here = at(told, path)
        if isinstance(here, tuple):
            swaps = [None, True, 0, 1, "ab", "", here + (None,), here + ("",), here + (True,), here + ((),),
                     (here, here)]
            if here:
                swaps += [here[:-1], here + here[-1:], here[1:]]
        elif isinstance(here, int):
            swaps = [None, bool(here), True, "1", "", (here,), [here], ()]
        else:
            swaps = [None, True, 0, 1, here + " ", here.upper(), (here,), [here], ""]
        for new in swaps:
            yield put_at(told, path, new)


def wrong_numbers(told):
    """What was told with another number at each number's place in turn."""
    for path in paths(told):
        here = at(told, path)
        if isinstance(here, int):
            for new in (here + 1, here - 1, -here, 2 * here, here + 10 ** 20):
                if new != here:
                    yield put_at(told, path, new)


def check_refuses_strange(test, checker, seed):
    """A checker, with only `told` left to hand in, tells False of all that's strange, and never fails."""
    chance = source(seed)
    for thing in STRANGE:
        test.assertIs(checker(thing), False, repr(thing))
    for trial in range(600):
        thing = strange_thing(chance, chance.randrange(13))
        test.assertIs(checker(thing), False, repr(thing))
    for depth in range(13):
        for heart in (None, True, 0, 1, "", "told", "none"):
            test.assertIs(checker(deep_thing(depth, heart)), False)


def check_told(test, checker, told, others=()):
    """A checker takes what was told, as tuples, as lists and mixed, and nothing of it with a wrong kind in it."""
    for form in (tupled, listed, mixed, lambda thing: mixed(thing, True)):
        test.assertIs(checker(form(told)), True)
    for spoilt in wrong_kinds(told):
        if spoilt not in others:
            test.assertIs(checker(spoilt), False, repr(spoilt))
            test.assertIs(checker(listed(spoilt)), False, repr(spoilt))

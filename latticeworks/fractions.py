"""Fractions: tuples (top, bottom) in lowest terms, the bottom above nought."""

from latticeworks.kinds import are_numbers


# The greatest number that divides both; nought only where both are nought.
def common(one, other):
    great = abs(one)
    small = abs(other)
    while small != 0:
        rest = great % small
        great = small
        small = rest
    return great


def part(top, bottom):
    shrink = common(top, bottom)
    # Dividing by a number below nought turns both signs, so that the bottom comes out above nought.
    if bottom < 0:
        shrink = -shrink
    return (top // shrink, bottom // shrink)


def plus(one, other):
    return part(one[0] * other[1] + other[0] * one[1], one[1] * other[1])


def minus(one, other):
    return part(one[0] * other[1] - other[0] * one[1], one[1] * other[1])


def times(one, other):
    return part(one[0] * other[0], one[1] * other[1])


def over(one, other):
    return part(one[0] * other[1], one[1] * other[0])


def before(one, other):
    return one[0] * other[1] < other[0] * one[1]


def floor_of(one):
    return one[0] // one[1]


def whole(n):
    return (n, 1)


def is_part(thing):
    return are_numbers(thing, 2) and thing[1] > 0 and common(thing[0], thing[1]) == 1

"""The sums of steps that are nearest to a point, and the shortest ones, with papers and their checkers."""

from latticeworks.fractions import before, is_part, minus, plus, times, whole
from latticeworks.kinds import is_listed_of
from latticeworks.near import points_and_tree
from latticeworks.reach import Reach, first_spot
from latticeworks.rows import as_rows, dot, is_rows, sum_by
from latticeworks.short import short
from latticeworks.treecheck import shows_near


def square_from(row, point):
    total = whole(0)
    for number, one in zip(row, point):
        off = minus(whole(number), one)
        total = plus(total, times(off, off))
    return total


def least_square(rows, point):
    least = square_from(rows[0], point)
    for row in rows[1:]:
        square = square_from(row, point)
        if before(square, least):
            least = square
    return least


# A sum that isn't far: from the last step on, each is taken the number of times nearest to its centre.
def rounded(steps, point):
    spot = first_spot(Reach(steps, point, whole(0)))
    while not spot.is_end():
        spot = spot.with_chosen(spot.nearest_to_centre())
    return sum_by(spot.chosen, steps, len(point))


def nearest(steps, point):
    told = short(steps)
    bound = square_from(rounded(told[0], point), point)
    within = points_and_tree(told[0], point, bound, None)[0]
    least = least_square(within, point)
    found = points_and_tree(told[0], point, least, None)
    return (least, found[0], told + (found[1],))


def without_noughts(rows):
    return tuple([row for row in rows if any([number != 0 for number in row])])


def shortest(steps):
    told = short(steps)
    made = told[0]
    origin = (whole(0),) * len(made[0])
    within = points_and_tree(made, origin, whole(dot(made[0], made[0])), None)[0]
    least = least_square(without_noughts(within), origin)
    found = points_and_tree(made, origin, least, None)
    return (least, without_noughts(found[0]), told + (found[1],))


# Whether told has a square, points of it, at least one and each of just that square, and something more.
def are_of_one_square(point, told):
    if not is_listed_of(told, 3) or not is_part(told[0]) or not is_rows(told[1], None, len(point)):
        return False
    square = tuple(told[0])
    return len(told[1]) > 0 and all([square_from(row, point) == square for row in told[1]])


def shows_nearest(steps, point, told):
    return are_of_one_square(point, told) and shows_near(steps, point, told[0], told[1], told[2])


def shows_shortest(steps, told):
    wide = len(steps[0])
    origin = (whole(0),) * wide
    if not are_of_one_square(origin, told) or not before(origin[0], told[0]):
        return False
    points = as_rows(told[1])
    if points != tuple(sorted(points)):
        return False
    return shows_near(steps, origin, told[0], sorted(points + ((0,) * wide,)), told[2])

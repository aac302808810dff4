"""All sums of steps that are near to a point, with the tree that shows that there are no others."""

from latticeworks.errors import TooMany
from latticeworks.reach import Reach, first_spot
from latticeworks.rows import sum_by
from latticeworks.short import short

MOST_POINTS = 300


# Rows as they are found, at most so many; most is None where there's no bound.
class Finds:
    def __init__(self, most):
        self.most = most
        self.found = []

    def keep(self, row):
        if len(self.found) == self.most:
            raise TooMany("there are more rows than may be told")
        self.found.append(row)

    def rising(self):
        return tuple(sorted(self.found))


# The nodes for the next step taken z, z + stride, .. times, as long as that's within reach.
def children_from(spot, z, stride, collect):
    children = []
    while spot.is_within(z):
        children.append(node_at(spot.with_chosen(z), collect))
        z += stride
    return children


# From the centre outwards, so that rows are found soon where there are too many of them.
def node_at(spot, collect):
    if spot.is_end():
        collect(spot.chosen)
        return ()
    middle = spot.floor_of_centre()
    below = children_from(spot, middle, -1, collect)
    above = children_from(spot, middle + 1, 1, collect)
    return (middle + 1 - len(below), tuple(below[::-1] + above))


# The tree of all that is within reach; collect is called with the numbers of times of each sum that is.
def tree_of(reach, collect):
    return node_at(first_spot(reach), collect)


# The rising points and the tree; the steps are best short ones, as trees of others are wide.
def points_and_tree(steps, point, square, most):
    finds = Finds(most)
    reach = Reach(steps, point, square)
    tree = tree_of(reach, lambda chosen: finds.keep(sum_by(chosen, steps, len(point))))
    return (finds.rising(), tree)


def near(steps, point, square):
    told = short(steps)
    found = points_and_tree(told[0], point, square, MOST_POINTS)
    return (found[0], told + (found[1],))

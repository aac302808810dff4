"""The checker of what near tells: it walks the tree and collects the points by itself."""

from latticeworks.errors import NoSteps
from latticeworks.kinds import is_listed, is_listed_of, is_number
from latticeworks.reach import Reach, first_spot
from latticeworks.rows import are_turned, as_rows, is_rows, sum_by


def is_node(thing):
    return is_listed_of(thing, 2) and is_number(thing[0]) and is_listed(thing[1])


# Whether all that's within reach is from first to ahead of last. Costs rise on both sides of the centre, so the
# two numbers beyond, one on each side of it, speak for all that lie further out.
def closes_in(spot, first, last):
    if spot.is_over_centre(first - 1) or spot.is_under_centre(last):
        return False
    return not spot.is_within(first - 1) and not spot.is_within(last)


# Whether the node is as told for this place; puts the numbers of times of all that's reached into collected.
def node_holds(spot, node, collected):
    if spot.is_end():
        if spot.is_reached():
            collected.append(spot.chosen)
        return is_listed_of(node, 0)
    if not is_node(node) or not closes_in(spot, node[0], node[0] + len(node[1])):
        return False
    for z, child in enumerate(node[1], start=node[0]):
        if not node_holds(spot.with_chosen(z), child, collected):
            return False
    return True


def shows_near(steps, point, square, points, paper):
    wide = len(point)
    if not is_rows(points, None, wide) or not is_listed_of(paper, 4):
        return False
    if not are_turned(steps, paper[0], paper[1], paper[2]):
        return False
    try:
        reach = Reach(paper[0], point, square)
    except NoSteps:
        return False
    collected = []
    if not node_holds(first_spot(reach), paper[3], collected):
        return False
    return as_rows(points) == tuple(sorted([sum_by(chosen, paper[0], wide) for chosen in collected]))

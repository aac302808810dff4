"""How far sums of steps lie from a point, a step at a time, reckoned in whole numbers."""

from latticeworks.fractions import common
from latticeworks.shares import line_of, table_of
from latticeworks.standing import nearest_quotient


# The least number that all bottoms divide.
def bottom_of(parts):
    bottom = 1
    for one in parts:
        bottom = bottom * one[1] // common(bottom, one[1])
    return bottom


# What there is to know of steps, a point and a square. All squares and costs are told in one small unit, in which
# they come out whole: over the square of the point's bottom and the product of the last numbers of all lines.
class Reach:
    def __init__(self, steps, point, square):
        self.table = table_of(steps)
        self.bottom = bottom_of(point)
        self.tops = line_of(self.table, steps, [one[0] * (self.bottom // one[1]) for one in point])
        lasts = [line[-1] for line in self.table]
        unit = 1
        for last in lasts:
            unit = unit * last
        self.bottoms = [last * self.bottom for last in lasts]
        self.rates = [unit // (own * ahead) for own, ahead in zip(lasts, [1] + lasts)]
        self.outside = self.tops[-1] * (unit // lasts[-1])
        self.limit = square[0] * self.bottom * self.bottom * unit // square[1]

    # The centre for step k, over bottoms[k], where the steps behind it are taken the chosen numbers of times.
    def centre_top(self, k, chosen):
        taken = sum([z * line[k] for z, line in zip(chosen, self.table[k + 1:])])
        return self.tops[k] - self.bottom * taken

    def cost(self, k, top, z):
        off = z * self.bottoms[k] - top
        return off * off * self.rates[k]


# A place in a tree: the steps behind step k are taken the chosen numbers of times, which has cost what is spent.
# Behind the first step k is -1, and what is spent is the square of the sum from the point.
class Spot:
    def __init__(self, reach, k, chosen, spent):
        self.reach = reach
        self.k = k
        self.chosen = chosen
        self.spent = spent
        self.top = reach.centre_top(k, chosen) if k >= 0 else 0

    def is_end(self):
        return self.k < 0

    def is_reached(self):
        return self.spent <= self.reach.limit

    def spent_with(self, z):
        return self.spent + self.reach.cost(self.k, self.top, z)

    def is_within(self, z):
        return self.spent_with(z) <= self.reach.limit

    def is_over_centre(self, z):
        return z * self.reach.bottoms[self.k] > self.top

    def is_under_centre(self, z):
        return z * self.reach.bottoms[self.k] < self.top

    def floor_of_centre(self):
        return self.top // self.reach.bottoms[self.k]

    def nearest_to_centre(self):
        return nearest_quotient(self.top, self.reach.bottoms[self.k])

    def with_chosen(self, z):
        return Spot(self.reach, self.k - 1, (z,) + self.chosen, self.spent_with(z))


# The first node's place: the point's square from the nearest row by fractions is spent from the beginning.
def first_spot(reach):
    return Spot(reach, len(reach.bottoms) - 1, (), reach.outside)

"""What fixed numbers leave to the others within their bounds, for the trees of plans and their checker."""

from latticeworks.rows import dot
from latticeworks.standing import lead_of


# The least that the products can come to, each other number being from its low to its high.
def least_sum(numbers, low, high):
    return sum([min(number * least, number * most) for number, least, most in zip(numbers, low, high)])


def most_sum(numbers, low, high):
    return sum([max(number * least, number * most) for number, least, most in zip(numbers, low, high)])


# What all nodes with the same number of steps taken have in common: the numbers ahead of the place are fixed.
# An equation can hold only where the fixed numbers' products come to a sum within its window.
class Layer:
    def __init__(self, task, place):
        low = task.low[place:]
        high = task.high[place:]
        self.place = place
        self.lows = [number - most_sum(row[place:], low, high) for row, number in zip(task.rows, task.due)]
        self.highs = [number - least_sum(row[place:], low, high) for row, number in zip(task.rows, task.due)]
        self.open_cost = least_sum(task.costs[place:], low, high)


# A plan's task together with the steps that lead to all answers.
class Task:
    def __init__(self, costs, rows, due, low, high, steps):
        self.costs = costs
        self.rows = rows
        self.due = due
        self.low = low
        self.high = high
        self.steps = steps
        self.layers = [Layer(self, lead_of(step)) for step in steps] + [Layer(self, len(costs))]

    def is_end(self, taken):
        return taken == len(self.steps)

    def fixed(self, taken, row):
        return tuple(row[:self.layers[taken].place])

    def is_outside(self, place, row):
        return not self.low[place] <= row[place] <= self.high[place]

    # Whether equation k can't hold any more.
    def is_broken(self, k, taken, fixed):
        layer = self.layers[taken]
        return not layer.lows[k] <= dot(self.rows[k], fixed) <= layer.highs[k]

    def least_cost(self, taken, fixed):
        return dot(self.costs, fixed) + self.layers[taken].open_cost

    # Whether no plan behind the fixed numbers is cheaper than the plan, nor as cheap and ahead of it.
    def is_dearer(self, taken, fixed, cost, plan):
        least = self.least_cost(taken, fixed)
        return least > cost or (least == cost and fixed > tuple(plan[:len(fixed)]))

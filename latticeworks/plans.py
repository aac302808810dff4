"""Plans: answers of equations within bounds that cost least, with trees that show that no other costs less."""

from latticeworks.answers import answers
from latticeworks.layers import Task, least_sum
from latticeworks.rows import added, dot, unit_row
from latticeworks.standing import lead_of
from latticeworks.waiting import Waiting


# The first number of times of the next step that brings the number at its lead to its low or above, and the rows
# for it and for all further ones that don't bring it above its high.
def first_and_rows(task, taken, row):
    step = task.steps[taken]
    lead = lead_of(step)
    first = -((row[lead] - task.low[lead]) // step[lead])
    last = (task.high[lead] - row[lead]) // step[lead]
    return (first, [tuple(added(row, z, step)) for z in range(first, last + 1)])


# The node that shows that no plan lies behind these numbers, whatever it may cost; None where there may be one.
def node_against(task, taken, row):
    fixed = task.fixed(taken, row)
    for place in range(len(fixed)):
        if task.is_outside(place, row):
            return ("out", place)
    for k in range(len(task.rows)):
        if task.is_broken(k, taken, fixed):
            return ("row", k)
    return None


def put_if_open(waiting, task, taken, row):
    if node_against(task, taken, row) is None:
        fixed = task.fixed(taken, row)
        waiting.put((task.least_cost(taken, fixed), fixed, taken, row))


# The plan of least cost, of several the first; None where there's none. What may still become the cheapest is
# always looked into first, and of the equally cheap the lesser one: so the first plan that comes is the one, and
# nothing was looked into that its tree could leave out.
def best_plan(task, answer):
    waiting = Waiting()
    put_if_open(waiting, task, 0, answer)
    while not waiting.is_empty():
        least = waiting.take_least()
        taken = least[2]
        if task.is_end(taken):
            return least[3]
        for row in first_and_rows(task, taken, least[3])[1]:
            put_if_open(waiting, task, taken + 1, row)
    return None


# The tree for a plan and its cost, or for none.
class Grower:
    def __init__(self, task, plan):
        self.task = task
        self.plan = plan
        self.told_cost = dot(task.costs, plan) if plan is not None else None

    def is_dearer(self, taken, row):
        if self.plan is None:
            return False
        return self.task.is_dearer(taken, self.task.fixed(taken, row), self.told_cost, self.plan)

    def node(self, taken, row):
        against = node_against(self.task, taken, row)
        if against is not None:
            return against
        if self.is_dearer(taken, row):
            return ("cost",)
        if self.task.is_end(taken):
            return ("here",)
        further = first_and_rows(self.task, taken, row)
        return ("all", further[0], tuple([self.node(taken + 1, each) for each in further[1]]))


def planned(costs, rows, due, low, high):
    told = answers(rows, due)
    if told[0] == "none":
        return ("none", (told, ()))
    task = Task(costs, rows, due, low, high, told[2])
    grower = Grower(task, best_plan(task, told[1]))
    paper = (told, grower.node(0, told[1]))
    if grower.plan is None:
        return ("none", paper)
    return ("told", grower.told_cost, grower.plan, paper)


# For each row one further number, which takes up what the row stays below most.
def planned_under(costs, rows, most, low, high):
    many = len(rows)
    wider = [tuple(row) + unit_row(many, k) for k, row in enumerate(rows)]
    rooms = [max(0, number - least_sum(row, low, high)) for row, number in zip(rows, most)]
    noughts = (0,) * many
    return planned(tuple(costs) + noughts, wider, most, tuple(low) + noughts, tuple(high) + tuple(rooms))

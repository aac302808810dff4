"""The checker of what planned tells: it walks the tree by the document's words."""

from latticeworks.answercheck import is_answer, shows_answers
from latticeworks.kinds import are_numbers, is_listed, is_listed_of, is_number
from latticeworks.layers import Task
from latticeworks.rows import added, as_rows, dot
from latticeworks.standing import lead_of


def is_place(thing, many):
    return is_number(thing) and 0 <= thing < many


# A walk through a tree; plan and cost are None where no plan is told, met is whether the plan came at some "here".
class Walk:
    def __init__(self, task, cost, plan):
        self.task = task
        self.told_cost = cost
        self.plan = plan
        self.met = False

    def is_out(self, node, taken, row):
        return is_place(node[1], len(self.task.fixed(taken, row))) and self.task.is_outside(node[1], row)

    def is_row(self, node, taken, row):
        task = self.task
        return is_place(node[1], len(task.rows)) and task.is_broken(node[1], taken, task.fixed(taken, row))

    def is_cost(self, taken, row):
        if self.plan is None:
            return False
        return self.task.is_dearer(taken, self.task.fixed(taken, row), self.told_cost, self.plan)

    def is_here(self, taken, row):
        task = self.task
        if self.plan is None or not task.is_end(taken):
            return False
        if any([task.is_outside(place, row) for place in range(len(row))]):
            return False
        if row == self.plan:
            self.met = True
            return True
        return self.is_cost(taken, row)

    def is_all(self, node, taken, row):
        task = self.task
        if task.is_end(taken) or not is_number(node[1]) or not is_listed(node[2]):
            return False
        step = task.steps[taken]
        lead = lead_of(step)
        last = node[1] + len(node[2])
        if row[lead] + (node[1] - 1) * step[lead] >= task.low[lead]:
            return False
        if row[lead] + last * step[lead] <= task.high[lead]:
            return False
        for z, child in enumerate(node[2], start=node[1]):
            if not self.holds(child, taken + 1, tuple(added(row, z, step))):
                return False
        return True

    # Whether a thing of any kind is a node where so many steps are taken and come to the row.
    def holds(self, node, taken, row):
        if is_listed_of(node, 1):
            return (node[0] == "cost" and self.is_cost(taken, row)) or (node[0] == "here" and self.is_here(taken, row))
        if is_listed_of(node, 2) and node[0] == "out":
            return self.is_out(node, taken, row)
        if is_listed_of(node, 2) and node[0] == "row":
            return self.is_row(node, taken, row)
        return is_listed_of(node, 3) and node[0] == "all" and self.is_all(node, taken, row)


# The paper of what is told; None where that has neither of both forms.
def paper_of(told):
    if is_listed_of(told, 4) and told[0] == "told":
        return told[3]
    if is_listed_of(told, 2) and told[0] == "none":
        return told[1]
    return None


def is_plan(task, cost, plan):
    if not is_number(cost) or not are_numbers(plan, len(task.costs)) or dot(task.costs, plan) != cost:
        return False
    if any([task.is_outside(place, plan) for place in range(len(plan))]):
        return False
    return is_answer(task.rows, task.due, plan)


def plan_shows(task, told, answer, tree):
    if not is_plan(task, told[1], told[2]):
        return False
    walk = Walk(task, told[1], tuple(told[2]))
    return walk.holds(tree, 0, answer) and walk.met


def shows_planned(costs, rows, due, low, high, told):
    paper = paper_of(told)
    if not is_listed_of(paper, 2) or not shows_answers(rows, due, paper[0]):
        return False
    shown = paper[0]
    if shown[0] == "none":
        return told[0] == "none" and is_listed_of(paper[1], 0)
    task = Task(costs, rows, due, low, high, as_rows(shown[2]))
    if told[0] == "none":
        return Walk(task, None, None).holds(paper[1], 0, tuple(shown[1]))
    return plan_shows(task, told, tuple(shown[1]), paper[1])

"""Runs a sheet: each order's answer as a text."""

from latticeworks.answers import answers, small_answers
from latticeworks.dividing import dividing
from latticeworks.errors import NoSteps, TooMany
from latticeworks.inside import inside
from latticeworks.near import near
from latticeworks.nearest import nearest, shortest
from latticeworks.plans import planned, planned_under
from latticeworks.rests import kinds_of_rests
from latticeworks.sheet import orders_of
from latticeworks.short import short
from latticeworks.spaces import shared, space, together
from latticeworks.standing import standing

NONE = "none"


def row_text(row):
    return " ".join([str(number) for number in row])


def rows_text(rows):
    return " ; ".join([row_text(row) for row in rows]) if len(rows) > 0 else NONE


def fraction_text(one):
    top = one[0]
    bottom = one[1]
    return f"{top}/{bottom}" if bottom != 1 else str(top)


def standing_text(order):
    return rows_text(standing(order[1])[0])


def inside_text(order):
    return "yes" if inside(order[1], order[2])[0] == "told" else "no"


def dividing_text(order):
    numbers = dividing(order[1])[0]
    return row_text(numbers) if len(numbers) > 0 else NONE


def rests_text(order):
    told = kinds_of_rests(order[1])
    return " ".join(["kinds"] + [str(number) for number in told[0]] + ["free", str(told[1])])


def short_text(order):
    return rows_text(short(order[1])[0])


def square_and_points(told):
    return fraction_text(told[0]) + " : " + rows_text(told[1])


def nearest_text(order):
    return square_and_points(nearest(order[1], order[2]))


def shortest_text(order):
    return square_and_points(shortest(order[1]))


def near_text(order):
    return rows_text(near(order[1], order[2], order[3])[0])


def answers_text(order):
    told = answers(order[1], order[2])
    return row_text(told[1]) + " : " + rows_text(told[2]) if told[0] == "told" else NONE


def small_text(order):
    return rows_text(small_answers(order[1], order[2], order[3], order[4]))


# The spaces of both parts of rows, which are of one width.
def spaces_of(order):
    return [space(len(rows[0]), rows) for rows in order[1:]]


def together_text(order):
    spaces = spaces_of(order)
    return rows_text(together(spaces[0], spaces[1])[1])


def shared_text(order):
    spaces = spaces_of(order)
    return rows_text(shared(spaces[0], spaces[1])[1])


# The cost and the plan's first numbers, as many as there are costs: all of them, but where it was widened.
def plan_told(told, costs):
    return str(told[1]) + " : " + row_text(told[2][:len(costs)]) if told[0] == "told" else NONE


def plan_text(order):
    return plan_told(planned(order[1], order[2], order[3], order[4], order[5]), order[1])


def under_text(order):
    return plan_told(planned_under(order[1], order[2], order[3], order[4], order[5]), order[1])


TEXTS = {
    "standing": standing_text,
    "inside": inside_text,
    "dividing": dividing_text,
    "rests": rests_text,
    "short": short_text,
    "nearest": nearest_text,
    "shortest": shortest_text,
    "near": near_text,
    "answers": answers_text,
    "small": small_text,
    "together": together_text,
    "shared": shared_text,
    "plan": plan_text,
    "under": under_text,
}


def text_of(order):
    tell = TEXTS[order[0]]
    try:
        return tell(order)
    except NoSteps:
        return "no steps"
    except TooMany:
        return "too many"


def run(text):
    return tuple([text_of(order) for order in orders_of(text)])

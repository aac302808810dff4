"""All answers of equations in whole numbers: one of them, and the steps that lead to all others."""

from latticeworks.boxes import is_between, search_box
from latticeworks.inside import parts_against
from latticeworks.near import Finds
from latticeworks.rows import sum_by, turned_over
from latticeworks.short import short
from latticeworks.standing import falls, lead_of, standing, weighed

MOST_ANSWERS = 300


# The rows of turn behind those that make the columns' form make noughts of them, and all answers for noughts are
# their sums.
def steps_behind(turn, many):
    return standing(turn[many:])[0] if many < len(turn) else ()


def answers(rows, due):
    wide = len(rows[0])
    told = standing(turned_over(rows, wide))
    form = told[0]
    turn = told[1]
    fallen = weighed(form, due)
    if lead_of(fallen[1]) is not None:
        return ("none", parts_against(form, fallen[1]))
    steps = steps_behind(turn, len(form))
    answer = falls(steps, sum_by(fallen[0], turn[:len(form)], wide))
    return ("told", answer, steps, turn, told[2])


def small_answers(rows, due, low, high):
    told = answers(rows, due)
    if told[0] == "none":
        return ()
    finds = Finds(MOST_ANSWERS)
    if len(told[2]) > 0:
        search_box(rows, due, told[1], short(told[2])[0], (low, high), finds)
    elif is_between(told[1], low, high):
        finds.keep(told[1])
    return finds.rising()

"""The checker of what answers tells: it reckons with what is told alone."""

from latticeworks.inside import parts_show
from latticeworks.kinds import are_numbers, is_listed_of
from latticeworks.rows import dot, is_rows, is_turn_of, product, turned_over
from latticeworks.standing import falls, is_standing, lead_of, standing_head


def is_answer(rows, due, row):
    return all([dot(each, row) == number for each, number in zip(rows, due)])


def steps_show(rows, steps):
    if not is_rows(steps, None, len(rows[0])) or not is_standing(steps):
        return False
    noughts = (0,) * len(rows)
    return all([is_answer(rows, noughts, step) for step in steps])


def answer_shows(rows, due, answer, steps):
    if not are_numbers(answer, len(rows[0])) or not is_answer(rows, due, answer):
        return False
    return falls(steps, answer) == tuple(answer)


# All answers for noughts are sums of the turn's rows that come to noughts, so where these are sums of the steps,
# no step is left out.
def turn_shows(rows, steps, turn, back):
    wide = len(rows[0])
    if not is_turn_of(turn, back, wide):
        return False
    head = standing_head(product(turn, turned_over(rows, wide)))
    if head is None:
        return False
    return all([lead_of(falls(steps, row)) is None for row in turn[len(head):]])


def shows_answers(rows, due, told):
    if is_listed_of(told, 2):
        return told[0] == "none" and parts_show(turned_over(rows, len(rows[0])), due, told[1])
    if not is_listed_of(told, 5) or told[0] != "told":
        return False
    if not steps_show(rows, told[2]) or not answer_shows(rows, due, told[1], told[2]):
        return False
    return turn_shows(rows, told[2], told[3], told[4])

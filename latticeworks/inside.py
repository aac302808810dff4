"""Whether a row is a sum of rows: the weights if it is, and if not, fractions that show it."""

from latticeworks.fractions import is_part, minus, over, part, plus, times, whole
from latticeworks.kinds import are_numbers, is_listed_of
from latticeworks.rows import sum_by
from latticeworks.standing import lead_of, standing, weighed


# The sum of the products of fractions with the numbers of a row.
def parts_dot(parts, row):
    total = whole(0)
    for one, number in zip(parts, row):
        total = plus(total, times(one, whole(number)))
    return total


# A bottom for the part at the rest's lead. Where a row of form leads there, the rest's number is less than
# that row's, so it's no whole number of times of it; elsewhere any bottom does that leaves a half.
def bottom_at(form, rest, place):
    for row in form:
        if lead_of(row) == place:
            return row[place]
    return 2 * abs(rest[place])


# Parts for a rest that isn't noughts: none but noughts stand ahead of its lead, so the part at its lead alone
# decides of the rest, and the parts ahead are free to make the products with the rows of form whole.
def parts_against(form, rest):
    place = lead_of(rest)
    parts = [whole(0)] * len(rest)
    parts[place] = part(1, bottom_at(form, rest, place))
    for k in range(len(form) - 1, -1, -1):
        lead = lead_of(form[k])
        if lead < place:
            owed = minus(whole(0), parts_dot(parts, form[k]))
            parts[lead] = over(owed, whole(form[k][lead]))
    return tuple(parts)


def inside(rows, row):
    told = standing(rows)
    form = told[0]
    fallen = weighed(form, row)
    if lead_of(fallen[1]) is not None:
        return ("none", parts_against(form, fallen[1]))
    return ("told", sum_by(fallen[0], told[1][:len(form)], len(rows)))


def are_parts(thing, many):
    return is_listed_of(thing, many) and all([is_part(each) for each in thing])


def is_whole(one):
    return one[1] == 1


def parts_show(rows, row, parts):
    if not are_parts(parts, len(row)) or is_whole(parts_dot(parts, row)):
        return False
    return all([is_whole(parts_dot(parts, each)) for each in rows])


def weights_show(rows, row, weights):
    return are_numbers(weights, len(rows)) and sum_by(weights, rows, len(row)) == tuple(row)


def shows_inside(rows, row, told):
    if not is_listed_of(told, 2):
        return False
    if told[0] == "told":
        return weights_show(rows, row, told[1])
    return told[0] == "none" and parts_show(rows, row, told[1])

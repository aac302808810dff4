"""The rests that rows leave by the standing form of other rows: their kinds, all of them, sums and orders."""

from latticeworks.dividing import dividing
from latticeworks.errors import TooMany
from latticeworks.fractions import common
from latticeworks.rows import added
from latticeworks.standing import falls, lead_of, standing

MOST_RESTS = 300


def form_of(rows):
    return standing(rows)[0]


def kinds_of_rests(rows):
    numbers = dividing(rows)[0]
    return (tuple([number for number in numbers if number != 1]), len(rows[0]) - len(numbers))


# Each row with each number from nought up to below the bound put behind it, rising if the rows do.
def longer_by_one(rows, bound):
    longer = []
    for row in rows:
        longer.extend([row + (number,) for number in range(bound)])
    return longer


def all_rests(rows):
    form = form_of(rows)
    if len(form) < len(rows[0]):
        return None
    # As many rows as places: so each row leads at its own place, and a rest is any row below the leads' numbers.
    bounds = [row[k] for k, row in enumerate(form)]
    count = 1
    for bound in bounds:
        count = count * bound
    if count > MOST_RESTS:
        raise TooMany("there are more rests than may be told")
    rests = [()]
    for bound in bounds:
        rests = longer_by_one(rests, bound)
    return tuple(rests)


def rest_sum(rows, one, other):
    return falls(form_of(rows), added(one, 1, other))


# The rows of form depend on none of the others, so each one's weight must become whole by itself: the order is
# made of what each in turn still lacks.
def rest_order(rows, row):
    order = 1
    left = list(row)
    for each in form_of(rows):
        lead = lead_of(each)
        lacks = each[lead] // common(each[lead], left[lead])
        order = order * lacks
        left = [lacks * number for number in left]
        left = added(left, -(left[lead] // each[lead]), each)
    return order if lead_of(left) is None else None

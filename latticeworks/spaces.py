"""Spaces: all sums of rows, put together, shared, and carried from one width to another."""

from latticeworks.answers import answers
from latticeworks.rows import as_rows, nought_rows, product, unit_rows
from latticeworks.standing import falls, lead_of, standing


def space(wide, rows):
    return (wide, standing(rows)[0] if len(rows) > 0 else ())


def together(one, other):
    return space(one[0], as_rows(one[1]) + as_rows(other[1]))


# Each row with the other's row of the same place behind it.
def paired(rows, behind):
    return tuple([tuple(row) + tuple(more) for row, more in zip(rows, behind)])


# All rows that stand behind noughts, so many, in sums of these rows.
def behind_noughts(rows, many):
    if len(rows) == 0:
        return ()
    return tuple([row[many:] for row in standing(rows)[0] if lead_of(row) >= many])


# Where a sum of these has noughts in its first half, it's a sum of the one's rows and one of the other's that
# come to noughts together, and its second half keeps the former.
def doubled(one, other):
    return paired(one[1], one[1]) + paired(other[1], nought_rows(len(other[1]), one[0]))


def shared(one, other):
    return (one[0], behind_noughts(doubled(one, other), one[0]))


def beside(one):
    if len(one[1]) == 0:
        return (one[0], unit_rows(one[0]))
    return (one[0], answers(one[1], (0,) * len(one[1]))[2])


def flat(one):
    return beside(beside(one))


def carried(one, rows):
    return space(len(rows[0]), product(one[1], rows))


def carried_back(one, rows):
    many = len(rows)
    stacked = paired(rows, unit_rows(many)) + paired(one[1], nought_rows(len(one[1]), many))
    return (many, behind_noughts(stacked, one[0]))


def is_within(one, other):
    return one[0] == other[0] and all([lead_of(falls(other[1], row)) is None for row in one[1]])


# As many rows as the other has, each of them a sum of the other's rows: so both lead at the same places, and
# what each lead's number is of the other's tells how many rests there are.
def times_in(one, other):
    if not is_within(one, other) or len(one[1]) != len(other[1]):
        return None
    times = 1
    for inner, outer in zip(one[1], other[1]):
        lead = lead_of(inner)
        times = times * (inner[lead] // outer[lead])
    return times

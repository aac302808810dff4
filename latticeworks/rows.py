"""Rows of whole numbers: their sums, products, turns and determinants."""

from latticeworks.kinds import are_numbers, is_listed


# What is told is made of tuples, whatever was handed in.
def as_rows(rows):
    return tuple([tuple(row) for row in rows])


# The row and so many times another one, number by number.
def added(row, times, other):
    return [one + times * two for one, two in zip(row, other)]


def sum_by(weights, rows, wide):
    total = [0] * wide
    for weight, row in zip(weights, rows):
        total = added(total, weight, row)
    return tuple(total)


def product(one, other):
    wide = len(other[0])
    return tuple([sum_by(weights, other, wide) for weights in one])


def column(rows, place):
    return tuple([row[place] for row in rows])


def turned_over(rows, wide):
    return tuple([column(rows, place) for place in range(wide)])


def unit_row(n, place):
    return tuple([1 if k == place else 0 for k in range(n)])


def unit_rows(n):
    return tuple([unit_row(n, place) for place in range(n)])


def nought_rows(many, wide):
    return ((0,) * wide,) * many


def dot(one, other):
    return sum([left * right for left, right in zip(one, other)])


def is_rows(thing, many, wide):
    if not is_listed(thing):
        return False
    if many is not None and len(thing) != many:
        return False
    return all([are_numbers(row, wide) for row in thing])


def are_back(turn, back):
    if not is_listed(turn):
        return False
    many = len(turn)
    if not is_rows(turn, many, many) or not is_rows(back, many, many):
        return False
    # A product needs a row to know its width by, and no rows are the unit rows of none.
    return many == 0 or product(turn, back) == unit_rows(many)


def is_turn_of(turn, back, many):
    return is_rows(turn, many, many) and are_back(turn, back)


# Whether made, of any kind, are the rows that come of rows by turn, of any kind as well, with its back.
def are_turned(rows, made, turn, back):
    many = len(rows)
    if not is_rows(made, many, len(rows[0])) or not is_turn_of(turn, back, many):
        return False
    return as_rows(made) == product(turn, rows)


# The first row from place on that isn't nought there; None where all are.
def row_to_divide_by(rows, place):
    for k in range(place, len(rows)):
        if rows[k][place] != 0:
            return k
    return None


# The quotients come out whole: each number is a determinant of a part of the rows.
def row_below(row, head, place, divisor):
    return [(head[place] * own - row[place] * above) // divisor for own, above in zip(row, head)]


def measure(rows):
    many = len(rows)
    left = [list(row) for row in rows]
    sign = 1
    divisor = 1
    for place in range(many):
        found = row_to_divide_by(left, place)
        if found is None:
            return 0
        head = left[found]
        if found != place:
            left[found] = left[place]
            left[place] = head
            sign = -sign
        for k in range(place + 1, many):
            left[k] = row_below(left[k], head, place, divisor)
        divisor = head[place]
    return sign * divisor

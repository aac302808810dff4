"""The standing form of rows, one for all rows that have the same sums, and the rests by it."""

from latticeworks.kinds import is_listed_of
from latticeworks.rows import added, as_rows, is_rows, is_turn_of, nought_rows, product, turned_over, unit_rows


# The place of the first number that isn't nought; None where all are.
def lead_of(row):
    for place, number in enumerate(row):
        if number != 0:
            return place
    return None


def is_standing(rows):
    ahead = -1
    for k, row in enumerate(rows):
        lead = lead_of(row)
        if lead is None or lead <= ahead or row[lead] < 0:
            return False
        if not all([0 <= above[lead] < row[lead] for above in rows[:k]]):
            return False
        ahead = lead
    return True


# The rows ahead of those of noughts that end the rows; None where these don't stand.
def standing_head(rows):
    head = rows[:len([row for row in rows if lead_of(row) is not None])]
    return head if is_standing(head) else None


# The whole number nearest to top over bottom: the rests that it leaves are the least ones.
def nearest_quotient(top, bottom):
    return (2 * top + bottom) // (2 * bottom)


def exchanged(rows, k, other):
    order = list(rows)
    order[k] = rows[other]
    order[other] = rows[k]
    return order


def negated(row):
    return [-number for number in row]


# Rows on their way to the standing form, with the turn that brought them there and its back. The back is kept
# by its columns, so that each step upon rows is a step upon rows there as well.
class Bench:
    def __init__(self, rows):
        self.body = [list(row) for row in rows]
        self.turn = [list(row) for row in unit_rows(len(rows))]
        self.back_columns = [list(row) for row in unit_rows(len(rows))]

    # Row k less so many times row other.
    def take(self, k, times, other):
        self.body[k] = added(self.body[k], -times, self.body[other])
        self.turn[k] = added(self.turn[k], -times, self.turn[other])
        self.back_columns[other] = added(self.back_columns[other], times, self.back_columns[k])

    def exchange(self, k, other):
        self.body = exchanged(self.body, k, other)
        self.turn = exchanged(self.turn, k, other)
        self.back_columns = exchanged(self.back_columns, k, other)

    def change_sign(self, k):
        self.body[k] = negated(self.body[k])
        self.turn[k] = negated(self.turn[k])
        self.back_columns[k] = negated(self.back_columns[k])

    # The rows from top on that aren't nought at the place, those with the least numbers there first.
    def live_rows(self, top, place):
        live = [k for k in range(top, len(self.body)) if self.body[k][place] != 0]
        return sorted(live, key=lambda k: abs(self.body[k][place]))

    # Makes noughts at the place in all rows from top on but one, which comes to top; tells whether there is one.
    def gather(self, top, place):
        live = self.live_rows(top, place)
        # The greatest less the next greatest, always: so the other numbers of the rows grow slowest.
        while len(live) > 1:
            great = live[-1]
            small = live[-2]
            self.take(great, nearest_quotient(self.body[great][place], self.body[small][place]), small)
            live = self.live_rows(top, place)
        if len(live) == 0:
            return False
        self.exchange(top, live[0])
        if self.body[top][place] < 0:
            self.change_sign(top)
        return True

    # Brings the numbers above a lead to what may stand there.
    def lower_above(self, top, place):
        for k in range(top):
            self.take(k, self.body[k][place] // self.body[top][place], top)


def standing(rows):
    bench = Bench(rows)
    top = 0
    for place in range(len(rows[0])):
        if bench.gather(top, place):
            bench.lower_above(top, place)
            top += 1
    back = turned_over(bench.back_columns, len(rows))
    return (as_rows(bench.body[:top]), as_rows(bench.turn), back)


def shows_standing(rows, told):
    many = len(rows)
    wide = len(rows[0])
    if not is_listed_of(told, 3):
        return False
    form = told[0]
    turn = told[1]
    if not is_rows(form, None, wide) or not is_standing(form):
        return False
    if not is_turn_of(turn, told[2], many):
        return False
    return product(turn, rows) == as_rows(form) + nought_rows(many - len(form), wide)


# The weights of the sum of form that is taken away from row, and the rest that is left.
def weighed(form, row):
    weights = []
    left = list(row)
    for each in form:
        lead = lead_of(each)
        weight = left[lead] // each[lead]
        weights.append(weight)
        left = added(left, -weight, each)
    return (tuple(weights), tuple(left))


def falls(form, row):
    return weighed(form, row)[1]

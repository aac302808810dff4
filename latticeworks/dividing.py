"""The numbers that divide one another, which rows come to by turns from both sides."""

from latticeworks.kinds import is_listed, is_listed_of, is_number
from latticeworks.rows import as_rows, is_turn_of, product, turned_over, unit_rows
from latticeworks.standing import standing


# Rows between two turns. Whatever is done to them is done to the turns and their backs, so that
# left by the rows as they were by right is always the body.
class Sides:
    def __init__(self, rows):
        self.many = len(rows)
        self.wide = len(rows[0])
        self.body = rows
        self.left = unit_rows(self.many)
        self.left_back = unit_rows(self.many)
        self.right = unit_rows(self.wide)
        self.right_back = unit_rows(self.wide)

    def turn_left(self, turn, back):
        self.body = product(turn, self.body)
        self.left = product(turn, self.left)
        self.left_back = product(self.left_back, back)

    def turn_right(self, turn, back):
        self.body = product(self.body, turn)
        self.right = product(self.right, turn)
        self.right_back = product(back, self.right_back)

    def stand_rows(self):
        told = standing(self.body)
        self.turn_left(told[1], told[2])

    def stand_columns(self):
        told = standing(turned_over(self.body, self.wide))
        self.turn_right(turned_over(told[1], self.wide), turned_over(told[2], self.wide))

    # The number at the first place becomes a lesser divisor of itself, or it divides its row and column; then
    # the standing forms, being the only ones, leave nothing beside it, and so on with the next place.
    def settle(self):
        self.stand_rows()
        self.stand_columns()
        while not is_diagonal(self.body):
            self.stand_rows()
            self.stand_columns()

    # Column k and column other together: where the numbers of both then stand in one column, settling, which
    # begins with the rows, leaves the greatest number that divides both at k, and the least one that both
    # divide at the other place.
    def merge(self, k, other):
        self.turn_right(unit_rows_but(self.wide, other, k, 1), unit_rows_but(self.wide, other, k, -1))
        self.settle()


# Unit rows, but with the number at that place of row k, beside its 1.
def unit_rows_but(n, k, place, number):
    rows = [list(row) for row in unit_rows(n)]
    rows[k][place] = number
    return as_rows(rows)


def is_diagonal(rows):
    for k, row in enumerate(rows):
        if not all([number == 0 or place == k for place, number in enumerate(row)]):
            return False
    return True


def numbers_of(body):
    least = min(len(body), len(body[0]))
    return tuple([body[k][k] for k in range(least) if body[k][k] != 0])


def dividing(rows):
    sides = Sides(rows)
    sides.settle()
    many = len(numbers_of(sides.body))
    for k in range(many):
        for other in range(k + 1, many):
            if sides.body[other][other] % sides.body[k][k] != 0:
                sides.merge(k, other)
    return (numbers_of(sides.body), sides.left, sides.left_back, sides.right, sides.right_back)


def are_dividing(thing, most):
    if not is_listed(thing) or len(thing) > most:
        return False
    ahead = 1
    for number in thing:
        if not is_number(number) or number <= 0 or number % ahead != 0:
            return False
        ahead = number
    return True


def diagonal(numbers, many, wide):
    rows = [[0] * wide for k in range(many)]
    for k, number in enumerate(numbers):
        rows[k][k] = number
    return as_rows(rows)


def shows_dividing(rows, told):
    many = len(rows)
    wide = len(rows[0])
    if not is_listed_of(told, 5) or not are_dividing(told[0], min(many, wide)):
        return False
    if not is_turn_of(told[1], told[2], many) or not is_turn_of(told[3], told[4], wide):
        return False
    return product(product(told[1], rows), told[3]) == diagonal(told[0], many, wide)

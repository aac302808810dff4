"""Short steps: as near to one another's right angles, and as short, as steps with the same sums come by turns."""

from latticeworks.errors import NoSteps
from latticeworks.fractions import before, minus, part, times
from latticeworks.kinds import is_listed_of
from latticeworks.rows import are_turned, as_rows, turned_over
from latticeworks.shares import shares, table_of
from latticeworks.standing import Bench, nearest_quotient


def is_half_at_most(share):
    return 2 * abs(share[0]) <= share[1]


def falls_too_far(square, share, ahead):
    return before(square, times(minus(part(3, 4), times(share, share)), ahead))


def is_short(steps):
    told = shares(steps)
    squares = told[0]
    for own in told[1]:
        if not all([is_half_at_most(share) for share in own]):
            return False
    return not any([falls_too_far(squares[k], told[1][k][k - 1], squares[k - 1]) for k in range(1, len(squares))])


# Steps on their way to short ones. Their table of shares is kept in whole numbers and changed with each stroke,
# which is much less work than to make it anew.
class Stairs:
    def __init__(self, steps):
        self.bench = Bench(steps)
        self.table = table_of(steps)

    # The last number of line k, which is 1 ahead of the first.
    def last_of(self, k):
        return self.table[k][k] if k >= 0 else 1

    # Brings the share that step k has of own part j to a half at most.
    def lessen(self, k, j):
        quotient = nearest_quotient(self.table[k][j], self.table[j][j])
        if quotient == 0:
            return
        self.bench.take(k, quotient, j)
        for i in range(j + 1):
            self.table[k][i] -= quotient * self.table[j][i]

    # Whether square k is too small beside the one ahead: the document's bound, times all bottoms.
    def is_steep(self, k):
        share = self.table[k][k - 1]
        ahead = self.last_of(k - 1)
        return 4 * (self.last_of(k) * self.last_of(k - 2) + share * share) < 3 * ahead * ahead

    # Exchanges step k and the one ahead. Only own parts k and k - 1 become others, and of both together each
    # further step has what it had.
    def swap(self, k):
        self.bench.exchange(k, k - 1)
        share = self.table[k][k - 1]
        own = self.last_of(k)
        ahead = self.last_of(k - 1)
        made = (self.last_of(k - 2) * own + share * share) // ahead
        kept = self.table[k][:k - 1]
        self.table[k] = self.table[k - 1][:k - 1] + [share, own]
        self.table[k - 1] = kept + [made]
        for i in range(k + 1, len(self.table)):
            line = self.table[i]
            upper = (own * line[k - 1] - share * line[k]) // ahead
            lower = (made * line[k] + share * upper) // own
            self.table[i] = line[:k - 1] + [lower, upper] + line[k + 1:]

    def shorten(self):
        k = 1
        while k < len(self.table):
            self.lessen(k, k - 1)
            if self.is_steep(k):
                self.swap(k)
                k = max(1, k - 1)
            else:
                for j in range(k - 2, -1, -1):
                    self.lessen(k, j)
                k += 1


def short(steps):
    stairs = Stairs(steps)
    stairs.shorten()
    bench = stairs.bench
    return (as_rows(bench.body), as_rows(bench.turn), turned_over(bench.back_columns, len(steps)))


def shows_short(steps, told):
    if not is_listed_of(told, 3) or not are_turned(steps, told[0], told[1], told[2]):
        return False
    try:
        return is_short(told[0])
    except NoSteps:
        return False

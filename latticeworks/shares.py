"""The own parts of steps: their squares, and the shares that each step has of the own parts ahead."""

from latticeworks.errors import NoSteps
from latticeworks.fractions import part
from latticeworks.rows import dot


# What two rows have in common beside the own parts of the steps in the table. Each number on the way is a
# determinant of dots, so every quotient is whole.
def cleared(together, table, one, other):
    divisor = 1
    for line, left, right in zip(table, one, other):
        together = (line[-1] * together - left * right) // divisor
        divisor = line[-1]
    return together


# The line that a row has behind those of the steps ahead, in whole numbers: its share of each own part, times
# the last number of that step's line; and, as its own last number, the determinant of the dots of all these
# steps and the row with one another, which is nought just where the row is a sum of the steps by fractions.
def line_of(table, steps, row):
    made = []
    for line, step in zip(table, steps):
        made.append(cleared(dot(row, step), table, made, line))
    made.append(cleared(dot(row, row), table, made, made))
    return made


def table_of(steps):
    table = []
    for step in steps:
        line = line_of(table, steps, step)
        if line[-1] == 0:
            raise NoSteps("a row is a sum of the others by fractions")
        table.append(line)
    return table


def squares_in(table):
    lasts = [line[-1] for line in table]
    return tuple([part(own, ahead) for own, ahead in zip(lasts, [1] + lasts)])


def shares_in(table, line):
    return tuple([part(top, ahead[-1]) for top, ahead in zip(line[:-1], table)])


def shares(steps):
    table = table_of(steps)
    return (squares_in(table), tuple([shares_in(table, line) for line in table]))

"""Sheets: texts whose rows are orders, read into tuples."""

from latticeworks.errors import NoSheet
from latticeworks.fractions import part, whole

FIGURES = "0123456789"

MOST_FIGURES = 12

MOST_NUMBERS = 8

# How many rows a part of each sort has at most; the parts of the sorts that aren't here are of one row.
MOST_ROWS = {"rows": 8, "few rows": 5}

# The sorts of each word's parts: a row is as wide as the rows are, a due has a number for each of them.
PARTS = {
    "standing": ("rows",),
    "inside": ("rows", "row"),
    "dividing": ("rows",),
    "rests": ("rows",),
    "short": ("rows",),
    "nearest": ("few rows", "point"),
    "shortest": ("few rows",),
    "near": ("few rows", "point", "square"),
    "answers": ("rows", "due"),
    "small": ("rows", "due", "row", "row"),
    "together": ("rows", "rows"),
    "shared": ("rows", "rows"),
    "plan": ("row", "rows", "due", "row", "row"),
    "under": ("row", "rows", "due", "row", "row"),
}


def is_number_text(text):
    figures = text[1:] if text.startswith("-") else text
    if not 1 <= len(figures) <= MOST_FIGURES or not all([figure in FIGURES for figure in figures]):
        return False
    return figures[0] != "0" or text == "0"


def number_of(text, line):
    if not is_number_text(text):
        raise NoSheet(line)
    return int(text)


def fraction_of(text, line):
    halves = text.partition("/")
    top = number_of(halves[0], line)
    if halves[1] == "":
        return whole(top)
    bottom = number_of(halves[2], line)
    if bottom <= 0:
        raise NoSheet(line)
    return part(top, bottom)


# The row of numbers, or of fractions, by what reads one of them.
def row_of(text, read, line):
    texts = [each for each in text.split(" ") if each != ""]
    if not 1 <= len(texts) <= MOST_NUMBERS:
        raise NoSheet(line)
    return tuple([read(each, line) for each in texts])


def rows_of(text, most, line):
    rows = tuple([row_of(each, number_of, line) for each in text.split(";")])
    if len(rows) > most or any([len(row) != len(rows[0]) for row in rows]):
        raise NoSheet(line)
    return rows


def square_of(text, line):
    numbers = row_of(text, fraction_of, line)
    if len(numbers) != 1 or numbers[0][0] < 0:
        raise NoSheet(line)
    return numbers[0]


def value_of(sort, text, line):
    if sort in MOST_ROWS:
        return rows_of(text, MOST_ROWS[sort], line)
    if sort == "square":
        return square_of(text, line)
    return row_of(text, fraction_of if sort == "point" else number_of, line)


# Whether a part is as large as the rows of its order ask for.
def fits(sort, value, rows):
    if sort in MOST_ROWS:
        return len(value[0]) == len(rows[0])
    if sort == "due":
        return len(value) == len(rows)
    return sort == "square" or len(value) == len(rows[0])


# The first part of rows; each word has one.
def rows_among(sorts, values):
    return [value for sort, value in zip(sorts, values) if sort in MOST_ROWS][0]


def order_of(text, line):
    halves = text.strip(" ").partition(" ")
    word = halves[0]
    texts = halves[2].split(":")
    if word not in PARTS or len(texts) != len(PARTS[word]):
        raise NoSheet(line)
    sorts = PARTS[word]
    values = [value_of(sort, each, line) for sort, each in zip(sorts, texts)]
    rows = rows_among(sorts, values)
    if not all([fits(sort, value, rows) for sort, value in zip(sorts, values)]):
        raise NoSheet(line)
    return (word,) + tuple(values)


def orders_of(text):
    rows = text.split("\n")
    return tuple([order_of(row, line) for line, row in enumerate(rows) if row.strip(" ") != ""])

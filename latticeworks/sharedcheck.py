"""The paper that shows what two spaces share, and its checker."""

from latticeworks.kinds import is_listed_of, is_number
from latticeworks.rows import as_rows, is_rows, is_turn_of, product
from latticeworks.spaces import doubled
from latticeworks.standing import is_standing, lead_of, standing, standing_head


def shared_paper(one, other):
    rows = doubled(one, other)
    return standing(rows)[1:] if len(rows) > 0 else ((), ())


def is_space(thing, wide):
    if not is_listed_of(thing, 2) or not is_number(thing[0]) or thing[0] != wide:
        return False
    return is_rows(thing[1], None, wide) and is_standing(thing[1])


# What turn makes of rows; no rows are left as they are, having no width.
def turned_by(turn, rows):
    return product(turn, rows) if len(rows) > 0 else ()


def shows_shared(one, other, told, paper):
    wide = one[0]
    rows = doubled(one, other)
    if not is_space(told, wide) or not is_listed_of(paper, 2) or not is_turn_of(paper[0], paper[1], len(rows)):
        return False
    head = standing_head(turned_by(paper[0], rows))
    if head is None:
        return False
    return as_rows(told[1]) == tuple([row[wide:] for row in head if lead_of(row) >= wide])

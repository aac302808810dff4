"""Of what kind a thing is: all that checkers ask ahead of reckoning with what they were handed."""


# True and False are whole numbers to Python, but none to the program.
def is_number(thing):
    return isinstance(thing, int) and not isinstance(thing, bool)


# A list stands wherever a tuple is told, and the other way about.
def is_listed(thing):
    return isinstance(thing, (list, tuple))


def is_listed_of(thing, many):
    return is_listed(thing) and len(thing) == many


def are_numbers(thing, many):
    return is_listed_of(thing, many) and all([is_number(each) for each in thing])

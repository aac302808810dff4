"""The refusals of the program, each a class of its own straight under LatticeError."""


# The base of all refusals, so that one handler can take them all.
class LatticeError(ValueError):
    pass


# Rows were handed in as steps, and one of them is a sum of the others by fractions.
class NoSteps(LatticeError):
    pass


# There are more things to tell than the document allows to be told.
class TooMany(LatticeError):
    pass


# A row of a sheet isn't written as it should be; line is its place, counted from nought.
class NoSheet(LatticeError):
    def __init__(self, line):
        LatticeError.__init__(self, f"row {line} of the sheet is not written as told")
        self.line = line

"""The refusals of the program."""


# Any refusal: who asks may take all of them by this one name.
class CubeError(ValueError):
    pass


# A thing is no line or no ladder.
class NoLadder(CubeError):
    pass


# There is no such axis, level, value or parent.
class NoValue(CubeError):
    pass


# A thing is no grain, or none that serves here.
class NoGrain(CubeError):
    pass


# A thing is no list of picks.
class NoPick(CubeError):
    pass


# A thing is no change of rows.
class NoRow(CubeError):
    pass


# A row is to be taken out that does not stand.
class NoSuch(CubeError):
    pass


# A text is not written as it is to be, or a thing is no text.
class NoText(CubeError):
    pass


# There would be more lines, rows, tables or axes than there may be.
class TooMuch(CubeError):
    pass

"""The refusals of the program, one class for each."""


class GiverError(ValueError):
    """Any refusal."""


class NoBook(GiverError):
    """What was handed in as a book is none."""


class NoMost(GiverError):
    """What was handed in as the bound of steps is none."""


class NoRule(GiverError):
    """The book has no rule of this name."""


class NoWorth(GiverError):
    """What was handed in as the worths of a giver doesn't fit its rule."""


class Full(GiverError):
    """The hall has as many givers as it may have."""


class NoGiver(GiverError):
    """The hall has no giver of this number."""


class NoAsk(GiverError):
    """What was handed in as the way to ask is none."""


class NoCode(GiverError):
    """What was handed in as codes isn't one code of each rule."""


class NoKept(GiverError):
    """What was handed in as a kept hall is none."""


class NoRow(GiverError):
    """What was said to the desk is none of its rows."""


class NoText(GiverError):
    """What was handed in isn't written as it should be; `at` is the number of the line."""

    def __init__(self, at):
        GiverError.__init__(self, f"not so written, at line {at}")
        self.at = at

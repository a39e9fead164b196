"""The refusals of the program, each of its own class."""


class FillError(ValueError):
    pass


class BadSides(FillError):
    pass


class BadGap(FillError):
    pass


class NotOneGap(FillError):
    pass


class HasGaps(FillError):
    pass


class TooMany(FillError):
    pass


class NoText(FillError):
    pass

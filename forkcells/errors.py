"""The errors of the package."""


class ClaimError(ValueError):
    """The base of the errors about wrong values."""


class InvalidFrame(ClaimError):
    """It is no frame."""


class InvalidTerm(ClaimError):
    """It is no term, or no point."""


class InvalidClaim(ClaimError):
    """It is no claim for the frame."""


class InvalidSituation(ClaimError):
    """It is no situation, or none that fits."""


class InvalidQuestion(ClaimError):
    """It is no question."""


class InvalidFunction(ClaimError):
    """It is no function."""


class InvalidProgram(ClaimError):
    """It is no program."""


class InvalidOperation(ClaimError):
    """The call does not fit what it is made for."""


class InvalidName(ClaimError):
    """It is no name."""


class ParseError(ClaimError):
    """A text is wrong from `index` on; `None` if it is no text."""

    def __init__(self, index):
        self.index = index


class InvalidNumber(IndexError):
    """`number` is no integer that can stand there."""

    def __init__(self, number):
        self.number = number


class UnknownName(KeyError):
    """`name` is not known there."""

    def __init__(self, name):
        self.name = name


class NothingToUndo(LookupError):
    """There are fewer steps than the `asked` ones."""

    def __init__(self, asked):
        self.asked = asked


class TooMany(OverflowError):
    """There are more than `bound`."""

    def __init__(self, bound):
        self.bound = bound


class Refused(ArithmeticError):
    """Something was not taken, for this `reason`."""

    def __init__(self, reason):
        self.reason = reason

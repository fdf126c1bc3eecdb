"""Which values count as integers."""

from forkcells.errors import InvalidNumber, NothingToUndo


def is_any_integer(value):
    """Whether the value is an integer, of any length; True and False are none."""
    return isinstance(value, int) and not isinstance(value, bool)


def is_passed_integer(value):
    """Whether the value is an integer of at most sixty digits, as all that are passed."""
    return is_any_integer(value) and abs(value) < 10 ** 60


def is_index(value, many):
    """Whether the value is an integer from 0 to one less than there are."""
    return is_any_integer(value) and 0 <= value < many


def require_undo(many, there):
    """An error, if so many steps cannot be taken back where so many are there."""
    if not is_passed_integer(many) or many < 0:
        raise InvalidNumber(many)
    if many > there:
        raise NothingToUndo(many)

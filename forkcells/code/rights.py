"""Rights: which cells of an array can be used, as integers and as claims."""

from forkcells.base.frames import Frame, is_name
from forkcells.base.integers import is_passed_integer
from forkcells.errors import InvalidFrame, InvalidName, InvalidOperation, InvalidTerm


def is_within(right, other):
    """Whether the first right lies within the second one."""
    require_integers(right)
    require_integers(other)
    return lies_within(right, other)


def do_meet(right, other):
    """Whether two rights meet."""
    require_integers(right)
    require_integers(other)
    return meets(right, other)


def lies_within(right, other):
    """The same for pairs that are not checked; runs can have longer integers than those passed."""
    return right[1] <= right[0] or (other[0] <= right[0] and right[1] <= other[1])


def meets(right, other):
    """The same for pairs that are not checked."""
    if right[1] <= right[0] or other[1] <= other[0]:
        return False
    return right[0] < other[1] and other[0] < right[1]


def within_claim(one, other):
    """That the first right lies within the second one."""
    require_right(one)
    require_right(other)
    (low, high), (other_low, other_high) = one, other
    inside = ("and", (("pos", "<=", other_low, low), ("pos", "<=", high, other_high)))
    return ("or", (("pos", "<=", high, low), inside))


def apart_claim(one, other):
    """That two rights do not meet."""
    require_right(one)
    require_right(other)
    (low, high), (other_low, other_high) = one, other
    apart = (("pos", "<=", high, other_low), ("pos", "<=", other_high, low))
    return ("or", apart + (("pos", "<=", high, low), ("pos", "<=", other_high, other_low)))


def usable_claim(frame, array, right, term):
    """That the cell of the array at the term lies in the array and in the right."""
    if not isinstance(frame, Frame):
        raise InvalidFrame("this is no frame")
    length = frame.length_of(array)
    if not is_pair(right) or not frame.is_position_term(right[0]) or not frame.is_position_term(right[1]):
        raise InvalidTerm("this is no right with position terms of the frame")
    if not frame.is_position_term(term):
        raise InvalidTerm("this is no position term of the frame")
    inside = (("pos", "<=", ("", 0), term), ("pos", "<", term, (length, 0)))
    return ("and", inside + (("pos", "<=", right[0], term), ("pos", "<", term, right[1])))


def in_right(own, right):
    """The guard that an own name is in the right."""
    require_own_name(own)
    require_right(right)
    return ("in", own, right[0], right[1])


def outside_right(own, right):
    """The guard that is true at all cells of an array that are not in the right."""
    require_own_name(own)
    require_right(right)
    return ("or", (("in", own, ("", 0), right[0]), ("pos", "<=", right[1], (own, 0))))


def is_pair(value):
    """Whether the value is a tuple of two."""
    return isinstance(value, tuple) and len(value) == 2


def require_integers(right):
    """An error, if it is no pair of integers."""
    if not is_pair(right) or not is_passed_integer(right[0]) or not is_passed_integer(right[1]):
        raise InvalidOperation("this is no pair of integers")


def require_right(right):
    """An error, if it is no pair of position terms of any frame."""
    if not is_pair(right) or not is_any_position_term(right[0]) or not is_any_position_term(right[1]):
        raise InvalidTerm("this is no pair of position terms")


def require_own_name(own):
    """An error, if it is no name."""
    if not is_name(own):
        raise InvalidName("this is no name")


def is_any_position_term(value):
    """Whether the value is a pair of a name, or "", and an integer."""
    return is_pair(value) and (is_name(value[0]) or value[0] == "") and is_passed_integer(value[1])

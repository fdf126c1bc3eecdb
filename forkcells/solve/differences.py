"""Differences of points, what fits them, and rings."""

from forkcells.base.frames import is_name
from forkcells.base.integers import is_any_integer, is_index, is_passed_integer
from forkcells.errors import InvalidClaim, InvalidOperation, InvalidTerm
from forkcells.logic.claims import is_claim
from forkcells.solve.graph import (found_ring, least_bound, makes_ring, numbers_that_fit,
                                   points_of)

MAX_DIFFERENCES = 60


def fitting(differences):
    """Integers for all points for which all differences are true, or None."""
    require_differences(differences)
    numbers = numbers_that_fit(differences)
    if numbers is None:
        return None
    words = sorted([point for point in numbers if isinstance(point, str)])
    cells = sorted([point for point in numbers if isinstance(point, tuple)])
    return {point: numbers[point] for point in words + cells}


def is_fitting(differences, value):
    """Whether the value is a dict of integers for which all differences are true."""
    require_differences(differences)
    points = points_of(differences)
    if not isinstance(value, dict) or len(value) != len(points):
        return False
    for point in value:
        # Python takes True as 1 in a key, so each key is looked at by itself.
        if not is_point(point) or point not in points or not is_any_integer(value[point]):
            return False
    for one, other, most in differences:
        if value[one] - value[other] > most:
            return False
    return value[""] == 0


def ring(differences):
    """A ring of differences, or None."""
    require_differences(differences)
    indices = found_ring(differences)
    return None if indices is None else tuple(indices)


def is_ring(differences, value):
    """Whether the value is a ring of the differences."""
    require_differences(differences)
    if not isinstance(value, tuple):
        return False
    for index in value:
        if not is_index(index, len(differences)):
            return False
    return makes_ring([differences[index] for index in value])


def tightest(differences, one, other):
    """The least integer that `one` less `other` never exceeds, or None."""
    require_differences(differences)
    for point in (one, other):
        if not is_point(point):
            raise InvalidTerm("this is no point")
    if numbers_that_fit(differences) is None:
        raise InvalidOperation("no integers fit the differences")
    return least_bound(differences, one, other)


def differences_of(frame, claim):
    """What an atom, or a not of one, says, as a tuple of differences."""
    if not is_claim(frame, claim):
        raise InvalidClaim("this is no claim for the frame")
    said = differences_said(claim)
    if said is None:
        raise InvalidOperation("this claim does not say a difference")
    return said


def differences_said(claim):
    """The differences of a claim that is not checked again, or None if it is no such claim."""
    negative = claim[0] == "not"
    atom = claim[1] if negative else claim
    if atom[0] != "pos" and atom[0] != "val":
        return None
    op, one, other = atom[1:]
    if op == "==":
        return None if negative else (bounded(one, other, 0), bounded(other, one, 0))
    if negative:
        return (bounded(other, one, -1 if op == "<=" else 0),)
    return (bounded(one, other, 0 if op == "<=" else -1),)


def bounded(one, other, more):
    """The difference that says that a term is at most another one and so much more."""
    return (point_of(one), point_of(other), other[-1] - one[-1] + more)


def point_of(term):
    """The point at which a term stands."""
    return term[0] if len(term) == 2 else term[:3]


def require_differences(value):
    """An error, if it is no tuple of at most sixty differences."""
    if not isinstance(value, tuple) or len(value) > MAX_DIFFERENCES:
        raise InvalidOperation("this is no tuple of at most sixty differences")
    for difference in value:
        if not is_difference(difference):
            raise InvalidOperation("this is no difference")


def is_difference(value):
    """Whether the value is a tuple of two points and an integer."""
    if not isinstance(value, tuple) or len(value) != 3:
        return False
    return is_point(value[0]) and is_point(value[1]) and is_passed_integer(value[2])


def is_point(value):
    """Whether the value is a point."""
    if not isinstance(value, tuple):
        return is_place(value)
    if len(value) != 3:
        return False
    return is_name(value[0]) and is_place(value[1]) and is_passed_integer(value[2])


def is_place(value):
    """Whether the value is "", a name or a new position."""
    if not isinstance(value, str):
        return False
    return value == "" or is_name(value) or is_new_position(value)


def is_new_position(word):
    """Whether a string is a star and a number from 1 on without leading zeros."""
    if len(word) < 2 or word[0] != "*" or word[1] == "0":
        return False
    for letter in word[1:]:
        if not "0" <= letter <= "9":
            return False
    return True

"""Rows: which values are rows, and how they are numbered."""

from forkcells.base.frames import is_name
from forkcells.base.integers import is_any_integer
from forkcells.logic.forms import is_formed, is_worded
from forkcells.logic.parts import signed_alls_of

CONDITION_DEPTH = 11
# How many arrays, positions and values a call has at most.
CALL_SIZES = (3, 4, 3)


class Scope:
    """What rows can speak of: a frame without was names, what they can change, how many branches."""

    def __init__(self, frame, full, places, numbers, most_branches):
        self.ground = frame
        self.full = full
        self.moved = places
        self.kept = numbers
        self.most_branches = most_branches


def are_rows(scope, value, deeper):
    """Whether the value is a tuple of rows, in which rows stand at most so much deeper."""
    if not isinstance(value, tuple) or (len(value) > 0 and deeper < 0):
        return False
    for row in value:
        if not is_row(scope, row, deeper):
            return False
    return True


def is_row(scope, value, deeper):
    """Whether the value is a row, in which rows stand at most so much deeper."""
    if not is_worded(value):
        return False
    word, size = value[0], len(value)
    if word == "move" and size == 3:
        return is_one_of(value[1], scope.moved) and scope.ground.is_position_term(value[2])
    if word == "keep" and size == 3:
        return is_one_of(value[1], scope.kept) and scope.ground.is_value_term(value[2])
    if word == "write" and size == 5:
        if not is_one_of(value[1], scope.full) or not scope.ground.is_position_term(value[2:4]):
            return False
        return scope.ground.is_value_term(value[4])
    if word == "if" and size == 4:
        if not is_condition(scope.ground, value[1]) or not are_rows(scope, value[2], deeper - 1):
            return False
        return are_rows(scope, value[3], deeper - 1)
    if word == "while" and size == 3:
        return is_condition(scope.ground, value[1]) and are_rows(scope, value[2], deeper - 1)
    return word == "fork" and size == 2 and are_calls(scope, value[1])


def is_one_of(value, words):
    """Whether any value is one of these words."""
    return isinstance(value, str) and value in words


def is_condition(frame, value):
    """Whether the value is a claim without alls that a row can ask."""
    return is_formed(frame, value, CONDITION_DEPTH) and len(signed_alls_of(value, True)) == 0


def are_calls(scope, value):
    """Whether the value is a tuple of as many calls as a fork has."""
    if not isinstance(value, tuple) or not 1 <= len(value) <= scope.most_branches:
        return False
    for call in value:
        if not is_call(scope.ground, call):
            return False
    return True


def is_call(frame, value):
    """Whether the value is a call; whether it fits the function is not asked."""
    if not isinstance(value, tuple) or len(value) != 4 or not is_name(value[0]):
        return False
    for k in range(3):
        if not isinstance(value[k + 1], tuple) or len(value[k + 1]) > CALL_SIZES[k]:
            return False
    for array in value[1]:
        if array not in frame or frame.kind_of(array) != "array":
            return False
    for term in value[2]:
        if not frame.is_position_term(term):
            return False
    for term in value[3]:
        if not frame.is_value_term(term):
            return False
    return True


def are_short(value):
    """Whether all integers in nested tuples have at most forty digits."""
    if isinstance(value, tuple):
        for part in value:
            if not are_short(part):
                return False
        return True
    return not is_any_integer(value) or abs(value) < 10 ** 40


def listed_rows(rows):
    """The list of all rows, those in others too, by their numbers."""
    listed = []
    for row in rows:
        listed.append(row)
        for inner in inner_rows(row):
            listed.extend(listed_rows(inner))
    return listed


def inner_rows(row):
    """The tuples of rows that stand in a row."""
    if row[0] == "if":
        return [row[2], row[3]]
    return [row[2]] if row[0] == "while" else []


def inner_loops(rows, loop, first):
    """For all rows the number of the innermost loop in whose rows they stand, or None.

    The rows themselves stand in `loop`, and the next loop has the number `first`.
    """
    loops = []
    for row in rows:
        own = loop
        loops.append(loop)
        if row[0] == "while":
            own = first
            first = first + 1
        for inner in inner_rows(row):
            loops.extend(inner_loops(inner, own, first))
            first = first + many_loops(inner)
    return loops


def many_loops(rows):
    """How many loops there are in rows."""
    return len([row for row in listed_rows(rows) if row[0] == "while"])


def called_names(rows):
    """The ascending tuple of the names of the functions that forks begin."""
    return tuple(sorted({call[0] for row in listed_rows(rows) if row[0] == "fork" for call in row[1]}))

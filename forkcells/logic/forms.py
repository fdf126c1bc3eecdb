"""Which values are claims, guards and bodies."""

from forkcells.base.frames import are_own_names

MAX_DEPTH = 12
SIGNS = ("<=", "<", "==")


def is_formed(frame, value, most):
    """Whether the value is a claim for the frame with at most this depth."""
    if most < 1 or not is_worded(value):
        return False
    word = value[0]
    if word == "pos":
        return is_position_atom(frame, value, ())
    if word == "val":
        return is_value_atom(frame, value, ())
    if word == "not":
        return len(value) == 2 and is_formed(frame, value[1], most - 1)
    if word == "and" or word == "or":
        return has_parts(value) and are_formed(frame, value[1], most - 1)
    return word == "all" and is_formed_all(frame, value, most)


def are_formed(frame, values, most):
    """Whether all values are claims with at most this depth."""
    for value in values:
        if not is_formed(frame, value, most):
            return False
    return True


def is_formed_all(frame, value, most):
    """Whether a tuple that begins with "all" is a claim with at most this depth."""
    if len(value) != 4 or not are_own_names(frame, value[1]) or len(value[1]) == 0:
        return False
    own = value[1]
    return is_guard(frame, own, value[2], most - 1) and is_body(frame, own, value[3], most - 1)


def is_worded(value):
    """Whether the value is a tuple that begins with a string."""
    return isinstance(value, tuple) and len(value) > 0 and isinstance(value[0], str)


def has_parts(value):
    """Whether a tuple has one more member, a tuple."""
    return len(value) == 2 and isinstance(value[1], tuple)


def is_sign(value):
    """Whether the value is one of the signs that compare."""
    return isinstance(value, str) and value in SIGNS


def is_position_atom(frame, value, own):
    """Whether a tuple that begins with "pos" compares two position terms."""
    if len(value) != 4 or not is_sign(value[1]):
        return False
    return frame.is_position_term(value[2], own=own) and frame.is_position_term(value[3], own=own)


def is_value_atom(frame, value, own):
    """Whether a tuple that begins with "val" compares two value terms."""
    if len(value) != 4 or not is_sign(value[1]):
        return False
    return is_body_term(frame, value[2], own) and is_body_term(frame, value[3], own)


def is_body_term(frame, value, own):
    """Whether the value is a value term that has own names with the shift 0 only."""
    if not frame.is_value_term(value, own=own):
        return False
    return len(value) == 2 or value[1] not in own or value[2] == 0


def is_guard(frame, own, value, most):
    """Whether the value is a guard with at most this depth."""
    if most < 1 or not is_worded(value):
        return False
    word = value[0]
    if word == "pos":
        return is_guard_atom(frame, own, value)
    if word == "in":
        return is_inside_guard(frame, own, value)
    if (word == "and" or word == "or") and has_parts(value):
        for part in value[1]:
            if not is_guard(frame, own, part, most - 1):
                return False
        return True
    return False


def is_guard_atom(frame, own, value):
    """Whether a tuple that begins with "pos" is an atom of a guard."""
    if not is_position_atom(frame, value, own) or value[1] == "<":
        return False
    named = [term for term in value[2:] if term[0] in own]
    shifted = [term for term in named if term[1] != 0]
    return len(named) > 0 and len(shifted) == 0


def is_inside_guard(frame, own, value):
    """Whether a tuple that begins with "in" is such a guard."""
    if len(value) != 4 or not isinstance(value[1], str) or value[1] not in own:
        return False
    return frame.is_position_term(value[2]) and frame.is_position_term(value[3])


def is_body(frame, own, value, most):
    """Whether the value is a body with at most this depth."""
    if most < 1 or not is_worded(value):
        return False
    word = value[0]
    if word == "val":
        return is_value_atom(frame, value, own)
    if word == "not":
        return len(value) == 2 and is_body(frame, own, value[1], most - 1)
    if (word == "and" or word == "or") and has_parts(value):
        for part in value[1]:
            if not is_body(frame, own, part, most - 1):
                return False
        return True
    return False

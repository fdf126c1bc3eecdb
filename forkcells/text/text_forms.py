"""Which tuples have the form of claims and rows that a text can tell."""

from forkcells.base.frames import is_name
from forkcells.base.integers import is_passed_integer
from forkcells.code.rights import is_any_position_term, is_pair
from forkcells.logic.forms import MAX_DEPTH, has_parts, is_sign, is_worded


def is_whole_form(value):
    """Whether the value has the form of a claim."""
    return is_claim_form(value, MAX_DEPTH, True, False)


def is_claim_form(value, most, whole, guarding):
    """Whether the value has the form of a claim with at most this depth.

    An all can stand in it if `whole` is true, and an "in" if `guarding` is.
    """
    if most < 1 or not is_worded(value):
        return False
    word = value[0]
    if word == "pos" or word == "val" or word == "in":
        return is_atom_form(value, guarding)
    if word == "not":
        return len(value) == 2 and is_claim_form(value[1], most - 1, whole, guarding)
    if word == "and" or word == "or":
        if not has_parts(value):
            return False
        return len([part for part in value[1] if not is_claim_form(part, most - 1, whole, guarding)]) == 0
    if word != "all" or not whole or len(value) != 4 or not are_own_forms(value[1]):
        return False
    return is_claim_form(value[2], most - 1, False, True) and is_claim_form(value[3], most - 1, False, False)


def is_atom_form(value, guarding):
    """Whether a tuple that begins with the word of an atom has its form."""
    if len(value) != 4:
        return False
    if value[0] == "val":
        return is_sign(value[1]) and is_amount_form(value[2]) and is_amount_form(value[3])
    fits = is_sign(value[1]) if value[0] == "pos" else guarding and is_name(value[1])
    return fits and is_any_position_term(value[2]) and is_any_position_term(value[3])


def are_own_forms(value):
    """Whether the value is a tuple of one or two names."""
    if not isinstance(value, tuple) or not 1 <= len(value) <= 2:
        return False
    return len([word for word in value if not is_name(word)]) == 0


def is_amount_form(value):
    """Whether the value has the form of a value term."""
    if is_pair(value):
        return is_any_position_term(value)
    if not isinstance(value, tuple) or len(value) != 4:
        return False
    return is_name(value[0]) and is_any_position_term(value[1:3]) and is_passed_integer(value[3])


def are_row_forms(value, deeper):
    """Whether the value is a tuple of rows by their form, in which rows stand at most so much deeper."""
    if not isinstance(value, tuple) or (len(value) > 0 and deeper < 0):
        return False
    return len([row for row in value if not is_row_form(row, deeper)]) == 0


def is_row_form(value, deeper):
    """Whether the value has the form of a row, in which rows stand at most so much deeper."""
    if not is_worded(value):
        return False
    word, size = value[0], len(value)
    if word == "move" and size == 3:
        return is_name(value[1]) and is_any_position_term(value[2])
    if word == "keep" and size == 3:
        return is_name(value[1]) and is_amount_form(value[2])
    if word == "write" and size == 5:
        return is_name(value[1]) and is_any_position_term(value[2:4]) and is_amount_form(value[4])
    if (word == "if" and size == 4) or (word == "while" and size == 3):
        inner = [rows for rows in value[2:] if not are_row_forms(rows, deeper - 1)]
        return is_whole_form(value[1]) and len(inner) == 0
    return word == "fork" and size == 2 and are_call_forms(value[1])


def are_call_forms(value):
    """Whether the value is a tuple of one or more calls by their form."""
    if not isinstance(value, tuple) or len(value) == 0:
        return False
    return len([call for call in value if not is_call_form(call)]) == 0


def is_call_form(value):
    """Whether the value has the form of a call."""
    if not isinstance(value, tuple) or len(value) != 4 or not is_name(value[0]):
        return False
    for told in value[1:]:
        if not isinstance(told, tuple):
            return False
    wrong = [word for word in value[1] if not is_name(word)]
    wrong.extend([term for term in value[2] if not is_any_position_term(term)])
    wrong.extend([term for term in value[3] if not is_amount_form(term)])
    return len(wrong) == 0

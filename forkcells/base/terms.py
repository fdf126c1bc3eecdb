"""Which values are terms, told by a dict from names to their kinds."""

from forkcells.base.integers import is_passed_integer


def kind_among(kinds, word):
    """The kind of a name, or None; the word can be any value."""
    if not isinstance(word, str):
        return None
    return kinds.get(word)


def is_place_word(kinds, word, own):
    """Whether a position term can begin with this word."""
    if not isinstance(word, str):
        return False
    return word == "" or kinds.get(word) in ("position", "length") or word in own


def is_position_pair(kinds, value, own):
    """Whether the value is a position term, where the names of `own` count as positions."""
    if not isinstance(value, tuple) or len(value) != 2:
        return False
    return is_place_word(kinds, value[0], own) and is_passed_integer(value[1])


def is_cell(kinds, value, own):
    """Whether the value is a cell."""
    if not isinstance(value, tuple) or len(value) != 4:
        return False
    if kind_among(kinds, value[0]) != "array" or not is_passed_integer(value[3]):
        return False
    return is_position_pair(kinds, value[1:3], own)


def is_amount_pair(kinds, value):
    """Whether the value is a value term without a cell."""
    if not isinstance(value, tuple) or len(value) != 2:
        return False
    if value[0] != "" and kind_among(kinds, value[0]) != "value":
        return False
    return is_passed_integer(value[1])


def shifted_term(term, shift):
    """The term with so much more: the last number of a term is added to it."""
    return term[:-1] + (term[-1] + shift,)

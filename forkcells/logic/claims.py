"""Claims, and claims that are made of them."""

from forkcells.base.frames import Frame, is_of_kind
from forkcells.errors import InvalidClaim, InvalidFrame, InvalidOperation, InvalidTerm
from forkcells.logic.forms import MAX_DEPTH, is_body_term, is_formed, is_sign
from forkcells.logic.parts import atoms_of, words_in
from forkcells.logic.putting import carried_claim, first_own, put_claim, used


def is_claim(frame, value):
    """Whether the value is a claim for the frame."""
    require_frame(frame)
    return is_formed(frame, value, MAX_DEPTH)


def names_of(frame, claim):
    """The ascending tuple of the names of the frame that stand in the claim."""
    require_claim(frame, claim)
    words = [word for atom in atoms_of(claim) for word in words_in(atom)]
    return tuple(sorted({word for word in words if word in frame}))


def replaced(frame, claim, terms):
    """The claim with terms in the place of positions and values."""
    require_claim(frame, claim)
    if not isinstance(terms, dict) or not are_fitting_terms(frame, frame, terms):
        raise InvalidOperation("this gives no terms for positions and values of the frame")
    return required_result(frame, put_claim({}, terms, claim))


def carried(frame, claim, target, arrays, terms):
    """The claim as one for the frame `target`."""
    require_claim(frame, claim)
    require_frame(target)
    if not is_array_map(frame, target, arrays):
        raise InvalidOperation("this does not take all arrays of the frame to such ones")
    if not is_term_map(frame, target, terms):
        raise InvalidOperation("this does not take all positions and values to terms")
    both = dict(terms)
    for array, length in frame.arrays:
        both[length] = (target.length_of(arrays[array]), 0)
    return required_result(target, carried_claim(target, arrays, both, claim))


def used_at(frame, claim, terms):
    """What an all says of these position terms."""
    require_claim(frame, claim)
    if claim[0] != "all":
        raise InvalidOperation("only an all is used")
    if not isinstance(terms, tuple) or len(terms) != len(claim[1]):
        raise InvalidOperation("an all is used at as many terms as it has own names")
    for term in terms:
        if not frame.is_position_term(term):
            raise InvalidOperation("an all is used at position terms")
    guard, body = used(claim, terms)
    return required_result(frame, ("or", (("not", guard), body)))


def inside_claim(frame, array, term):
    """That the term is inside of the array."""
    require_frame(frame)
    length = frame.length_of(array)
    if not frame.is_position_term(term):
        raise InvalidTerm("this is no position term of the frame")
    return ("and", (("pos", "<=", ("", 0), term), ("pos", "<", term, (length, 0))))


def all_between(frame, low, high, op, one, other):
    """That the value terms compare so at all positions from low on and below high."""
    require_frame(frame)
    for term in (low, high):
        if not frame.is_position_term(term):
            raise InvalidTerm("this is no position term of the frame")
    if not is_sign(op):
        raise InvalidOperation("this is no sign that compares")
    own = first_own(frame, ())
    if own is None:
        raise InvalidOperation("no own name is left")
    for term in (one, other):
        if not is_body_term(frame, term, (own,)):
            raise InvalidTerm("this is no value term that can stand in such a claim")
    return ("all", (own,), ("in", own, low, high), ("val", op, one, other))


def renamed_claim(frame, claim, names):
    """The claim for `frame.renamed(names)`."""
    require_claim(frame, claim)
    target = frame.renamed(names)
    arrays = {array: names.get(array, array) for array, _ in frame.arrays}
    others = frame.lengths + frame.positions + frame.amounts
    terms = {word: (names.get(word, word), 0) for word in others}
    return required_result(target, carried_claim(target, arrays, terms, claim))


def require_frame(frame):
    """An error, if it is no frame."""
    if not isinstance(frame, Frame):
        raise InvalidFrame("this is no frame")


def require_claim(frame, claim):
    """An error, if one is no frame, or the other one no claim for it."""
    if not is_claim(frame, claim):
        raise InvalidClaim("this is no claim for the frame")


def required_result(frame, claim):
    """The made claim; an error if it is none, as numbers or the depth went too far."""
    if not is_claim(frame, claim):
        raise InvalidOperation("what is made is no claim")
    return claim


def are_fitting_terms(frame, target, terms):
    """Whether a dict takes positions and values of the frame to terms of `target`."""
    for word in terms:
        if word not in frame:
            return False
        kind = frame.kind_of(word)
        if kind == "position" and not target.is_position_term(terms[word]):
            return False
        if kind == "value" and not target.is_value_term(terms[word]):
            return False
        if kind != "position" and kind != "value":
            return False
    return True


def is_term_map(frame, target, terms):
    """Whether `terms` takes all positions and values of the frame to terms of `target`."""
    if not isinstance(terms, dict) or len(terms) != len(frame.positions) + len(frame.amounts):
        return False
    return are_fitting_terms(frame, target, terms)


def is_array_map(frame, target, arrays):
    """Whether `arrays` takes all arrays to arrays, those of one length to ones of one length."""
    if not isinstance(arrays, dict) or len(arrays) != len(frame.arrays):
        return False
    lengths = {}
    for array, length in frame.arrays:
        if array not in arrays or not is_of_kind(target, arrays[array], "array"):
            return False
        new = target.length_of(arrays[array])
        if lengths.get(length, new) != new:
            return False
        lengths[length] = new
    return True

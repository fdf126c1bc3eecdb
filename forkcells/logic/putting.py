"""Terms in the place of names, all at once."""

from forkcells.base.terms import shifted_term


def put_position(terms, term):
    """The position term with what `terms` has in the place of its name."""
    word, number = terms.get(term[0], (term[0], 0))
    return (word, number + term[1])


def put_value(arrays, terms, term):
    """The value term with what `arrays` and `terms` have in the place of its names."""
    if len(term) == 4:
        array, word, shift, number = term
        return (arrays.get(array, array),) + put_position(terms, (word, shift)) + (number,)
    if term[0] in terms:
        return shifted_term(terms[term[0]], term[1])
    return term


def put_claim(arrays, terms, claim):
    """The claim with what `arrays` and `terms` have in the place of names; own names stay.

    It serves for guards and bodies, too; an own name that is put becomes another own name.
    """
    word = claim[0]
    if word == "pos":
        return ("pos", claim[1], put_position(terms, claim[2]), put_position(terms, claim[3]))
    if word == "val":
        one, other = put_value(arrays, terms, claim[2]), put_value(arrays, terms, claim[3])
        return ("val", claim[1], one, other)
    if word == "in":
        own = put_position(terms, (claim[1], 0))[0]
        return ("in", own, put_position(terms, claim[2]), put_position(terms, claim[3]))
    if word == "not":
        return ("not", put_claim(arrays, terms, claim[1]))
    if word == "all":
        guard, body = put_claim(arrays, terms, claim[2]), put_claim(arrays, terms, claim[3])
        return ("all", claim[1], guard, body)
    return (word, tuple([put_claim(arrays, terms, part) for part in claim[1]]))


def opened(guard):
    """The guard with an and of two atoms for each "in"."""
    word = guard[0]
    if word == "in":
        own = (guard[1], 0)
        return ("and", (("pos", "<=", guard[2], own), ("pos", "<", own, guard[3])))
    if word == "pos":
        return guard
    return (word, tuple([opened(part) for part in guard[1]]))


def used(claim, terms):
    """The guard and the body of an all, with position terms in the place of its own names."""
    own = {claim[1][k]: terms[k] for k in range(len(terms))}
    return (put_claim({}, own, opened(claim[2])), put_claim({}, own, claim[3]))


def first_own(frame, barred):
    """The first of k, kk, .. that is fresh for the frame and not barred, or None."""
    for many in range(1, 9):
        word = "k" * many
        if frame.is_fresh(word) and word not in barred:
            return word
    return None


def carried_claim(target, arrays, terms, claim):
    """The claim with names put, and own names made fresh for `target`; None if none is left."""
    word = claim[0]
    if word == "all":
        return carried_all(target, arrays, terms, claim)
    if word == "not":
        part = carried_claim(target, arrays, terms, claim[1])
        return None if part is None else ("not", part)
    if word == "and" or word == "or":
        parts = [carried_claim(target, arrays, terms, part) for part in claim[1]]
        return None if None in parts else (word, tuple(parts))
    return put_claim(arrays, terms, claim)


def carried_all(target, arrays, terms, claim):
    """The same for an all."""
    names = fresh_own(target, claim[1])
    if names is None:
        return None
    # Own names are put together with all others: a made one can be an elder name of the frame.
    both = dict(terms)
    for k in range(len(names)):
        both[claim[1][k]] = (names[k], 0)
    return ("all", names, put_claim(arrays, both, claim[2]), put_claim(arrays, both, claim[3]))


def fresh_own(frame, own):
    """Own names with others in the place of those that are not fresh; None if none is left."""
    names = list(own)
    for k in range(len(own)):
        if not frame.is_fresh(own[k]):
            made = first_own(frame, list(own) + names)
            if made is None:
                return None
            names[k] = made
    return tuple(names)

"""Trees, judged by the words of [2.3] alone, way by way."""

NEXTS = {"part": 3, "cases": 2, "new": 3, "at": 3, "apart": 3, "same": 3, "outside": 3, "ring": None}
SIZES = {"part": 4, "cases": 3, "new": 4, "at": 4, "apart": 4, "same": 4, "outside": 4, "ring": 2}


def integer(value):
    return type(value) is int


def put(own, term):
    """A term with another one in the place of its own name."""
    if len(term) == 4:
        word, shift = put(own, term[1:3])
        return (term[0], word, shift, term[3])
    if term[0] in own:
        return (own[term[0]][0], own[term[0]][1] + term[1])
    return term


def put_all(own, claim):
    if claim[0] == "in":
        term = own[claim[1]]
        return ("and", (("pos", "<=", claim[2], term), ("pos", "<", term, claim[3])))
    if claim[0] in ("pos", "val"):
        return claim[:2] + (put(own, claim[2]), put(own, claim[3]))
    if claim[0] == "not":
        return ("not", put_all(own, claim[1]))
    return (claim[0], tuple(put_all(own, part) for part in claim[1]))


def nots(claims):
    return tuple(("not", claim) for claim in claims)


def parts_of(fact):
    if fact[0] == "and":
        return fact[1]
    if fact[0] == "not" and fact[1][0] == "or":
        return nots(fact[1][1])
    if fact[0] == "not" and fact[1][0] == "not":
        return (fact[1][1],)
    return ()


def cases_of(fact):
    if fact[0] == "or":
        return fact[1]
    if fact[0] == "not" and fact[1][0] == "and":
        return nots(fact[1][1])
    if fact[0] == "not" and fact[1][0] in ("pos", "val") and fact[1][1] == "==":
        kind, _, one, other = fact[1]
        return ((kind, "<", one, other), (kind, "<", other, one))
    return None


def is_term(frame, names, term):
    if not (type(term) is tuple and len(term) == 2 and type(term[0]) is str and integer(term[1])):
        return False
    known = term[0] == "" or term[0] in names or term[0] in frame.positions or term[0] in frame.lengths
    return known and abs(term[1]) < 10 ** 60


def sides(fact):
    """Pairs of a kind and the differences of a fact that says some."""
    atom = fact[1] if fact[0] == "not" else fact
    if atom[0] not in ("pos", "val") or (fact[0] == "not" and atom[1] == "=="):
        return None, ()

    def step(one, other, strict):
        return (one[:-1], other[:-1], other[-1] - one[-1] - strict)
    one, other = atom[2:]
    if atom[1] == "==":
        return atom[0], (step(one, other, 0), step(other, one, 0))
    if fact[0] == "not":
        return atom[0], (step(other, one, 1 if atom[1] == "<=" else 0),)
    return atom[0], (step(one, other, 0 if atom[1] == "<=" else 1),)


def grown(question, node, facts, names):
    """For each next one the facts and names that the node adds, or None."""
    frame, word = question.frame, node[0]

    def fact(number):
        return facts[number] if integer(number) and 0 <= number < len(facts) else ("none",)
    if word == "part":
        parts = parts_of(fact(node[1]))
        good = integer(node[2]) and 0 <= node[2] < len(parts)
        return [((parts[node[2]],), ())] if good else None
    if word == "cases":
        cases = cases_of(fact(node[1]))
        return None if cases is None else [((case,), ()) for case in cases]
    if word in ("new", "at"):
        claim, told = fact(node[1]), node[2]
        if word == "new":
            if claim[0] != "not":
                return None
            claim = claim[1]
        if claim[0] != "all" or type(told) is not tuple or len(told) != len(claim[1]):
            return None
        if word == "at":
            if not all(is_term(frame, names, term) for term in told):
                return None
            own = dict(zip(claim[1], told))
            return [((("or", (("not", put_all(own, claim[2])), put_all(own, claim[3]))),), ())]
        if not all(frame.is_fresh(name) and name not in names for name in told) or len(set(told)) < len(told):
            return None
        own = {old: (new, 0) for old, new in zip(claim[1], told)}
        return [((put_all(own, claim[2]), ("not", put_all(own, claim[3]))), told)]
    if word == "apart":
        one, other = node[1], node[2]
        if not is_term(frame, names, one) or not is_term(frame, names, other):
            return None
        return [((("pos",) + case,), ()) for case in (("<", one, other), ("<", other, one), ("==", one, other))]
    if word == "ring":
        return ring_ends(fact, node[1])
    array, claim = node[1], fact(node[2])
    if type(array) is not str or array not in [name for name, _ in frame.arrays] or claim[0] != "pos":
        return None
    if word == "same":
        one, other = claim[2], claim[3]
        return [((("val", "==", (array, *one, 0), (array, *other, 0)),), ())] if claim[1] == "==" else None
    if claim[1] != "<":
        return None
    if claim[3] == ("", 0):
        return [((("val", "==", (array, *claim[2], 0), ("", 0)),), ())]
    if claim[2] == (frame.length_of(array), -1):
        return [((("val", "==", (array, *claim[3], 0), ("", 0)),), ())]
    return None


def ring_ends(fact, steps):
    if type(steps) is not tuple or not steps:
        return None
    kinds, chosen = set(), []
    for step in steps:
        if type(step) is not tuple or len(step) != 2:
            return None
        kind, said = sides(fact(step[0]))
        if not integer(step[1]) or not 0 <= step[1] < len(said):
            return None
        kinds.add(kind)
        chosen.append(said[step[1]])
    following = chosen[1:] + chosen[:1]
    linked = all(one[1] == other[0] for one, other in zip(chosen, following))
    return [] if linked and len(kinds) == 1 and sum(step[2] for step in chosen) < 0 else None


def next_numbers(node):
    place = NEXTS[node[0]]
    if place is None:
        return ()
    nexts = node[place]
    return nexts if node[0] in ("cases", "apart") else (nexts,)


def is_naive_tree(question, value):
    if type(value) is not tuple or not value:
        return False
    for node in value:
        if type(node) is not tuple or not node or type(node[0]) is not str or SIZES.get(node[0]) != len(node):
            return False
        if type(next_numbers(node)) is not tuple:
            return False
    named = [(number, k) for k, node in enumerate(value) for number in next_numbers(node)]
    if not all(integer(number) and number > k for number, k in named):
        return False
    if sorted(number for number, _ in named) != list(range(1, len(value))):
        return False

    def closes(number, facts, names):
        node = value[number]
        added = grown(question, node, facts, names)
        nexts = next_numbers(node)
        if added is None or len(added) != len(nexts):
            return False
        return all([closes(after, facts + more[0], names + more[1]) for after, more in zip(nexts, added)])
    return closes(0, question.facts, ())

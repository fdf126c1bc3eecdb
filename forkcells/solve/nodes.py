"""The nodes of trees: their forms, and what they add to the facts.

A step is a node without the numbers of its next ones. What it adds is a list with a pair for
each next one: the facts that come there, and the names that are made.
"""

from forkcells.base.frames import is_of_kind
from forkcells.base.integers import is_index, is_passed_integer
from forkcells.logic.putting import used
from forkcells.solve.differences import differences_said
from forkcells.solve.graph import makes_ring

# For each word the length of the step, and how the next ones stand behind it.
SHAPES = {
    "part": (3, "one"),
    "cases": (2, "some"),
    "new": (3, "one"),
    "at": (3, "one"),
    "apart": (3, "some"),
    "same": (3, "one"),
    "outside": (3, "one"),
    "ring": (2, "none"),
}


def split_node(value):
    """The pair of the step of a node and the tuple of its next ones, or None if it has no form."""
    if not isinstance(value, tuple) or len(value) == 0 or not isinstance(value[0], str):
        return None
    if value[0] not in SHAPES:
        return None
    size, way = SHAPES[value[0]]
    if way == "none":
        return (value, ()) if len(value) == size else None
    if len(value) != size + 1:
        return None
    if way == "one":
        return (value[:size], (value[size],))
    return (value[:size], value[size]) if isinstance(value[size], tuple) else None


def joined_node(step, nexts):
    """The node with this step and these next ones."""
    way = SHAPES[step[0]][1]
    if way == "none":
        return step
    return step + nexts if way == "one" else step + (nexts,)


def added_by(frame, facts, names, step):
    """What a step adds where these facts and made names are known, or None if it is none there."""
    word = step[0]
    if word == "part":
        return added_by_part(known_fact(facts, step[1]), step[2])
    if word == "cases":
        return added_by_cases(known_fact(facts, step[1]))
    if word == "new":
        return added_by_new(frame, names, known_fact(facts, step[1]), step[2])
    if word == "at":
        return added_by_at(frame, names, known_fact(facts, step[1]), step[2])
    if word == "apart":
        return added_by_apart(frame, names, step[1], step[2])
    if word == "same":
        return added_by_same(frame, step[1], known_fact(facts, step[2]))
    if word == "outside":
        return added_by_outside(frame, step[1], known_fact(facts, step[2]))
    return added_by_ring(facts, step[1])


def known_fact(facts, number):
    """The fact with this number, or one that no node is for."""
    return facts[number] if is_index(number, len(facts)) else ("",)


def is_not_of(fact, word):
    """Whether the fact is a not of something that begins with this word."""
    return fact[0] == "not" and fact[1][0] == word


def added_by_part(fact, index):
    """A part of what is true as a whole."""
    parts = whole_parts(fact)
    if not is_index(index, len(parts)):
        return None
    return [((parts[index],), ())]


def whole_parts(fact):
    """The parts of a fact that are true together; none if it is no such fact."""
    if fact[0] == "and":
        return fact[1]
    if is_not_of(fact, "or"):
        return nots_of(fact[1][1])
    return (fact[1][1],) if is_not_of(fact, "not") else ()


def added_by_cases(fact):
    """One of the parts, each in a case of its own."""
    parts = case_parts(fact)
    if parts is None:
        return None
    return [((part,), ()) for part in parts]


def case_parts(fact):
    """The parts of a fact of which one is true, or None if it is no such fact."""
    if fact[0] == "or":
        return fact[1]
    if is_not_of(fact, "and"):
        return nots_of(fact[1][1])
    if fact[0] == "not" and fact[1][1:2] == ("==",):
        kind, _, one, other = fact[1]
        return ((kind, "<", one, other), (kind, "<", other, one))
    return None


def nots_of(claims):
    """The nots of the claims."""
    return tuple([("not", claim) for claim in claims])


def added_by_new(frame, names, fact, made):
    """An instance that makes an all false, with new names."""
    if not is_not_of(fact, "all"):
        return None
    claim = fact[1]
    if not isinstance(made, tuple) or len(made) != len(claim[1]):
        return None
    for word in made:
        if not frame.is_fresh(word) or word in names:
            return None
    if len(set(made)) != len(made):
        return None
    guard, body = used(claim, [(word, 0) for word in made])
    return [((guard, ("not", body)), made)]


def added_by_at(frame, names, fact, terms):
    """What an all says of terms."""
    if fact[0] != "all" or not isinstance(terms, tuple) or len(terms) != len(fact[1]):
        return None
    for term in terms:
        if not is_term_there(frame, names, term):
            return None
    guard, body = used(fact, terms)
    return [((("or", (("not", guard), body)),), ())]


def added_by_apart(frame, names, one, other):
    """The three orders of two terms."""
    if not is_term_there(frame, names, one) or not is_term_there(frame, names, other):
        return None
    orders = (("pos", "<", one, other), ("pos", "<", other, one), ("pos", "==", one, other))
    return [((order,), ()) for order in orders]


def is_term_there(frame, names, value):
    """Whether the value is a position term, where the made names are positions, too."""
    if frame.is_position_term(value):
        return True
    if not isinstance(value, tuple) or len(value) != 2 or not isinstance(value[0], str):
        return False
    return value[0] in names and is_passed_integer(value[1])


def added_by_same(frame, array, fact):
    """That equal positions have equal cells."""
    if not is_of_kind(frame, array, "array") or fact[:2] != ("pos", "=="):
        return None
    one, other = (array,) + fact[2] + (0,), (array,) + fact[3] + (0,)
    return [((("val", "==", one, other),), ())]


def added_by_outside(frame, array, fact):
    """That a cell outside of its array is 0."""
    if not is_of_kind(frame, array, "array") or fact[:2] != ("pos", "<"):
        return None
    if fact[3] == ("", 0):
        term = fact[2]
    elif fact[2] == (frame.length_of(array), -1):
        term = fact[3]
    else:
        return None
    return [((("val", "==", (array,) + term + (0,), ("", 0)),), ())]


def added_by_ring(facts, steps):
    """Nothing: the facts of the steps are not true together."""
    if not isinstance(steps, tuple):
        return None
    kinds, chosen = [], []
    for step in steps:
        if not isinstance(step, tuple) or len(step) != 2:
            return None
        fact = known_fact(facts, step[0])
        said = differences_said(fact)
        if said is None or not is_index(step[1], len(said)):
            return None
        kinds.append(fact[1][0] if fact[0] == "not" else fact[0])
        chosen.append(said[step[1]])
    if not makes_ring(chosen) or kinds.count(kinds[0]) != len(kinds):
        return None
    return []

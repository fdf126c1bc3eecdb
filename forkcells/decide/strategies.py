"""Searches by several strategies: one of them is often short where another one is long."""

from forkcells.decide.search import Search

# Any proof is short enough where the second number is great, none where it is 0.
STRATEGIES = (
    (False, 1000000000, 0, 0),
    (True, 0, 0, 0),
    (False, 1000000000, 10, 4),
    (True, 200, 0, 0),
    (True, 1000000000, 10, 4),
)
# How many of them take turns where any answer will do.
FIRST = 3
MANY_ROUNDS = 1000
# How many nodes a proof has that is short enough, and how many a tree may have.
SHORT = 2500
MAX_NODES = 5000
MOST_ROUNDS = 16000


def finished_search(question):
    """A search that is over. The first strategies take turns, with more and more rounds."""
    many = MANY_ROUNDS
    while True:
        for strategy in STRATEGIES[:FIRST]:
            search = Search(question, strategy)
            search.run(many)
            if search.is_over():
                return search
        many = many * 4


def short_search(question):
    """A search that is over; if it has a proof, the shortest one that the strategies find."""
    best = finished_search(question)
    if best.proof is None or best.proof.size <= SHORT:
        return best
    many = MANY_ROUNDS
    while many <= MOST_ROUNDS:
        for strategy in STRATEGIES:
            search = Search(question, strategy)
            search.run(many)
            if search.proof is not None and search.proof.size < best.proof.size:
                best = search
        if best.proof.size <= MAX_NODES:
            return best
        many = many * 4
    return best

"""Proofs that a search makes, and the trees that they are written as."""

from forkcells.solve.nodes import joined_node


class Proof:
    """A node by which a way is closed, with a proof for each of its next ones.

    `told` is what the node has besides its fact; for a ring it is the list of the pairs of the
    number of a fact and a way. `branches` has pairs of the list of what is added, and a proof. What
    is added stands there as a pair of the number under which the proof knows it, and of the way that
    its difference has, or None if its differences are as they were.
    """

    def __init__(self, word, fact, told, branches):
        self.word = word
        self.fact = fact
        self.told = told
        self.branches = branches
        self.uses = used_keys(word, fact, told, branches)
        self.size = 1 + sum([proof.size for _, proof in branches])


def used_keys(word, fact, told, branches):
    """What must be known for a proof, as a dict: the numbers of facts, and the words of terms."""
    keys = {}
    for added, proof in branches:
        barred = {number: True for number, _ in added}
        if word == "new":
            barred.update({name: True for name in told})
        for key in proof.uses:
            if key not in barred:
                keys[key] = True
    if word == "ring":
        for number, _ in told:
            keys[number] = True
    if word == "at" or word == "apart":
        for name, _ in told:
            keys[name] = True
    if fact is not None:
        keys[fact.number] = True
    return keys


def added_facts(facts):
    """Facts as they stand in the branches of a proof."""
    return [(fact.number, None) for fact in facts]


def cases_proof(fact, closed):
    """A proof by all cases of a fact; `closed` has the proofs of its leaves by their numbers."""
    branches = []
    for part in fact.parts:
        proof = closed[part.number] if part.number in closed else cases_proof(part, closed)
        branches.append((added_facts([part]), proof))
    return Proof("cases", fact, None, branches)


def cut_proof(book, fact, proof, other_proof):
    """A proof out of one that needs a fact with one difference, and one that needs its opposite.

    Two of the three orders of two terms make one of both, so the shorter proof stands twice.
    """
    one, other, most = fact.edges[0]
    number, opposite = fact.number, book.opposite(fact).number
    if proof.size <= other_proof.size:
        last = ([(number, 0)], proof)
    else:
        last = ([(opposite, 1)], other_proof)
        most = most + 1
    terms = ((book.word_of(one), 0), (book.word_of(other), most))
    return Proof("apart", None, terms, [([(number, 0)], proof), ([(opposite, 0)], other_proof), last])


def tree_of(facts, proof):
    """The tree that a proof is written as, where these facts are known at first."""
    nodes = [()]
    left = [(0, proof, {facts[k].number: (k, None) for k in range(len(facts))}, len(facts))]
    while len(left) > 0:
        place, part, known, many = left.pop()
        first = len(nodes)
        nodes.extend([() for _ in part.branches])
        nexts = tuple(list(range(first, len(nodes))))
        nodes[place] = joined_node(step_of(part, known), nexts)
        for k in range(len(nexts)):
            added, after = part.branches[k]
            inner = {number: known[number] for number in known}
            for m in range(len(added)):
                inner[added[m][0]] = (many + m, added[m][1])
            left.append((nexts[k], after, inner, many + len(added)))
    return tuple(nodes)


def step_of(proof, known):
    """The node of a proof without its next ones, where `known` has the places of facts."""
    word, told = proof.word, proof.told
    if word == "ring":
        return (word, tuple([ring_pair(known[number], way) for number, way in told]))
    if word == "apart":
        return (word,) + told
    index = known[proof.fact.number][0]
    if word == "same" or word == "outside":
        return (word, told, index)
    return (word, index) if word == "cases" else (word, index, told)


def ring_pair(place, way):
    """The pair of a fact's place and a way, by where it is known."""
    return (place[0], way if place[1] is None else place[1])

"""The way of a search: the facts that are known on it, and what they say together."""

from forkcells.decide.bounds import Distances, Levels, fewest_steps
from forkcells.decide.facts import Book
from forkcells.decide.proofs import Proof, added_facts, cases_proof, cut_proof


class Step:
    """A node on the way: what it adds in each of its branches, and on which of these the way goes.

    The other branches are closed by the differences that were there ahead of the step, as `mark`
    counts them, or, at a choice, by the proofs in `closed`; those in `left` are not closed yet.
    `cuts` has pairs of a closed branch and the opposite of its fact, which is known in all branches
    behind it.
    """

    def __init__(self, word, fact, told, branches, turn, mark):
        self.word = word
        self.fact = fact
        self.told = told
        self.branches = branches
        self.turn = turn
        self.mark = mark
        # For a choice what is known ahead of it.
        self.ahead = None
        self.left = []
        self.closed = {}
        self.cuts = []


class State:
    """What is known on a way. Proofs of at most `most_cut` nodes make their opposites known."""

    def __init__(self, question, most_cut):
        self.ground = question.frame
        self.book = Book(question.frame, len(question.fresh))
        self.distances = Distances(self.book.many_spots())
        self.levels = Levels()
        self.words = []
        # The facts that have cases, and the alls.
        self.clauses = []
        self.wholes = []
        self.steps = []
        self._most_cut = most_cut
        self._edges = []
        self._way = []
        # How many facts of the way are taken in.
        self._taken = 0
        self._there = {}
        # The facts that a cut can put others in the place of.
        self._loose = {}
        # The points of the cells that stand in facts of the way.
        self._played = {}
        self.first_facts = [self.book.fact_of(claim) for claim in question.facts]
        self._know(self.first_facts)

    def is_known(self, fact):
        """Whether a fact is known."""
        return fact.number in self._there

    def is_met(self, clause):
        """Whether some part of a clause is known."""
        return len([part for part in clause.parts if part.number in self._there]) > 0

    def _know(self, facts):
        for fact in facts:
            if fact.number not in self._there:
                self._there[fact.number] = True
                self._way.append(fact)

    def _mark(self):
        return (len(self._edges), len(self.levels.edges))

    def many_edges(self):
        """How many differences are known."""
        return len(self._edges) + len(self.levels.edges)

    def step(self, word, fact, told, branches, turn):
        """Makes a node, and goes on in one of its branches."""
        made = Step(word, fact, told, branches, turn, self._mark())
        self.steps.append(made)
        self._know(branches[turn])
        return made

    def use(self, whole, terms):
        """Makes a node that says what an all says of terms."""
        self.step("at", whole, terms, [[self.book.instance(whole, terms)]], 0)

    def choose(self, word, fact, told, branches, free):
        """Makes a node with several branches that are not closed, and goes on in the first one."""
        memory = self.memory()
        for branch in branches:
            self._loose[branch[-1].number] = word == "cases"
        made = self.step(word, fact, told, branches, free[0])
        made.left = free[1:]
        made.ahead = memory

    def memory(self):
        """What is known, to come back to."""
        counts = (len(self._way), self._taken, len(self.clauses), len(self.wholes), len(self.words), len(self.steps))
        return (self._mark(), counts, self.distances.memory(), dict(self._played))

    def come_back(self, memory):
        """Comes back to what was known."""
        (places, values), (way, taken, clauses, wholes, words, steps), distances, played = memory
        del self._edges[places:]
        self.levels.drop(values)
        for fact in self._way[way:]:
            del self._there[fact.number]
        del self._way[way:]
        del self.clauses[clauses:]
        del self.wholes[wholes:]
        del self.words[words:]
        del self.steps[steps:]
        self._taken = taken
        self.distances.come_back(distances)
        self._played = dict(played)

    def close(self, proof):
        """Closes the way, and goes on in the next branch that a proof is still needed for.

        It returns None, or the proof that needs none of the steps, if no such branch is left.
        """
        while len(self.steps) > 0:
            made = self.steps.pop()
            if not is_needed(made, proof):
                proof = self._with_cuts(made, proof)
            elif len(made.left) == 0:
                proof = self._with_step(made, proof)
            else:
                self._next_branch(made, proof)
                return None
        return proof

    def _next_branch(self, made, proof):
        """Keeps the proof of a branch, and goes on in the next one, where its fact is not true."""
        made.closed[made.turn] = proof
        branch = made.branches[made.turn]
        if made.word == "cases" and can_be_cut(branch, proof) and proof.size <= self._most_cut:
            opposite = self.book.opposite(branch[-1])
            self._loose[opposite.number] = True
            made.cuts.append((made.turn, opposite))
        self.come_back(made.ahead)
        made.turn = made.left[0]
        made.left = made.left[1:]
        self.steps.append(made)
        self._know([opposite for _, opposite in made.cuts])
        self._know(made.branches[made.turn])

    def _with_cuts(self, made, proof):
        """The proof without the opposites of closed branches among what it uses."""
        for k, opposite in made.cuts[::-1]:
            if opposite.number in proof.uses:
                proof = cut_proof(self.book, made.branches[k][-1], made.closed[k], proof)
        return proof

    def _with_step(self, made, proof):
        """The proof with the node of a step ahead of it."""
        closed = {**made.closed, made.turn: proof}
        if made.word == "cases":
            return self._with_cuts(made, self._by_cases(made, closed))
        for k in range(len(made.branches)):
            if k not in closed:
                closed[k] = self._against(made.branches[k][0], made.mark)
        branches = [(added_facts(made.branches[k]), closed[k]) for k in range(len(made.branches))]
        return Proof(made.word, made.fact, made.told, branches)

    def _by_cases(self, made, closed):
        """The proof by the cases of a clause, where cut ones are closed by their opposites."""
        proofs = {}
        cuts = {k: opposite.number for k, opposite in made.cuts}
        for k in range(len(made.branches)):
            fact = made.branches[k][-1]
            if k not in closed:
                proofs[fact.number] = self._against(fact, made.mark)
            elif k in cuts and is_used(cuts[k], closed):
                proofs[fact.number] = Proof("ring", None, [(fact.number, 0), (cuts[k], 0)], [])
            else:
                proofs[fact.number] = closed[k]
        return cases_proof(made.fact, proofs)

    def bars(self, fact):
        """Whether the fact contradicts what is known, as far as its differences tell."""
        if fact.shape == "edge":
            for one, other, most in fact.edges:
                if fact.placed and self.distances.bars(one, other, most):
                    return True
                if not fact.placed and not self.levels.admits(one, other, most):
                    return True
            return False
        if fact.shape == "every":
            return len([part for part in fact.parts if self.bars(part)]) > 0
        return fact.shape == "some" and len(self.free_leaves(fact)) == 0

    def free_leaves(self, clause):
        """The indices of the cases of a clause that are not barred."""
        return [k for k in range(len(clause.leaves)) if not self.bars(clause.leaves[k][-1])]

    def _against(self, fact, mark):
        """A proof that closes the way behind a fact by the first differences, or None."""
        if fact.shape == "edge":
            return self._ring(fact, mark)
        if fact.shape == "every":
            for k in range(len(fact.parts)):
                proof = self._against(fact.parts[k], mark)
                if proof is not None:
                    return Proof("part", fact, k, [(added_facts([fact.parts[k]]), proof)])
            return None
        if fact.shape != "some":
            return None
        closed = {}
        for part in fact.parts:
            closed[part.number] = self._against(part, mark)
            if closed[part.number] is None:
                return None
        return cases_proof(fact, closed)

    def _ring(self, fact, mark):
        edges = self._edges if fact.placed else self.levels.edges
        many = mark[0] if fact.placed else mark[1]
        for k in range(len(fact.edges)):
            one, other, most = fact.edges[k]
            found = fewest_steps(edges, many, other, one, -1 - most)
            if found is not None:
                return Proof("ring", None, [(fact.number, k)] + [edges[index][3:] for index in found], [])
        return None

    def settle(self):
        """Takes in all that follows without a choice; a proof if the way is closed by it, or None."""
        while True:
            many = len(self.steps)
            proof = self._take_in()
            if proof is None:
                proof = self._force()
            if proof is not None:
                return proof
            self._link()
            if len(self.steps) == many:
                return None

    def _take_in(self):
        while self._taken < len(self._way):
            fact = self._way[self._taken]
            self._taken = self._taken + 1
            for point in list(fact.cells):
                self._played[point] = True
            if fact.shape == "edge":
                if self.bars(fact):
                    return self._against(fact, self._mark())
                self._measure(fact)
            elif fact.shape == "every":
                for k in range(len(fact.parts)):
                    self.step("part", fact, k, [[fact.parts[k]]], 0)
            elif fact.shape == "some":
                self.clauses.append(fact)
            elif fact.shape == "all":
                self.wholes.append(fact)
            else:
                self.words.extend(list(fact.made))
                self.step("new", fact, fact.made, [fact.parts], 0)
        return None

    def _measure(self, fact):
        for k in range(len(fact.edges)):
            one, other, most = fact.edges[k]
            if fact.placed:
                self.distances.add(one, other, most)
                self._edges.append((one, other, most, fact.number, k))
            else:
                self.levels.add((one, other, most, fact.number, k))

    def _force(self):
        """Goes into the one case of a clause that is not barred; a proof if none is left."""
        for clause in list(self.clauses):
            if self.is_met(clause):
                continue
            free = self.free_leaves(clause)
            if len(free) == 0:
                return self._against(clause, self._mark())
            if len(free) == 1:
                self.step("cases", clause, None, clause.leaves, free[0])
                proof = self._take_in()
                if proof is not None:
                    return proof
        return None

    def _link(self):
        """Makes cells equal that stand at one position, and those 0 that are outside."""
        anchors = {}
        for point in list(self._played):
            array, word, shift = self.book.cell(point)
            spot = self.book.spot(word)
            length = self.ground.length_of(array)
            if self.distances.bars(0, spot, shift):
                self._put_outside(array, (word, shift), ((word, shift), ("", 0)))
            elif self.distances.bars(spot, self.book.spot(length), -1 - shift):
                self._put_beyond(array, (word, shift), length)
            else:
                key = (array,) + self._anchor(spot, shift)
                if key in anchors:
                    self._put_same(array, anchors[key], (word, shift))
                else:
                    anchors[key] = (word, shift)

    def _anchor(self, spot, shift):
        """The first spot to which this one is fixed, and the number from there."""
        for other in range(spot):
            number = self.distances.fixed(spot, other)
            if number is not None:
                return (other, number + shift)
        return (spot, shift)

    def _put_beyond(self, array, term, length):
        # For 0 the node would take such a fact for one of the last position.
        beyond = (length, 0) if term == ("", 0) else term
        self._put_outside(array, beyond, ((length, -1), beyond))
        if beyond != term:
            self._put_same(array, term, beyond)

    def _put_outside(self, array, term, pair):
        made = self.book.nought(array, term)
        if made.number not in self._there:
            self.step("outside", self._known_order(pair, 0), array, [[made]], 0)

    def _put_same(self, array, one, other):
        order = self._known_order((one, other), 2)
        made = self.book.alike(array, order.claim[2], order.claim[3])
        if made.number not in self._there:
            self.step("same", order, array, [[made]], 0)

    def _known_order(self, pair, index):
        """The fact that tells the order of two terms, which is known or made so."""
        orders = self.book.orders(pair[0], pair[1])
        claims = [orders[index].claim]
        if index == 2:
            claims.append(("pos", "==", pair[1], pair[0]))
        for fact in self._way:
            if fact.shape == "edge" and fact.claim in claims and not self._loose.get(fact.number, False):
                return fact
        self.step("apart", None, pair, [[fact] for fact in orders], index)
        return orders[index]


def can_be_cut(branch, proof):
    """Whether the last fact of a branch is one difference of positions, and the proof needs it alone."""
    if not branch[-1].placed or len(branch[-1].edges) != 1:
        return False
    return len([fact for fact in branch[:-1] if fact.number in proof.uses]) == 0


def is_needed(made, proof):
    """Whether a proof uses what a step adds in the branch that is gone on with."""
    keys = [fact.number for fact in made.branches[made.turn]]
    if made.word == "new":
        keys.extend(list(made.told))
    return len([key for key in keys if key in proof.uses]) > 0


def is_used(number, proofs):
    """Whether one of the proofs uses the fact with this number."""
    return len([k for k in proofs if number in proofs[k].uses]) > 0

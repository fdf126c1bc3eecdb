"""The search for a paper: it makes a choice only where a situation that it found breaks something.

What is looked for is a situation for the way, by the differences that are known on it. What it
breaks comes onto the way: an all is used at members, and a fact with several cases is a choice. A
way that is closed is gone back to the last choice that its proof needs.
"""

from forkcells.decide.candidates import candidate_for
from forkcells.decide.proofs import tree_of
from forkcells.decide.state import State
from forkcells.world.situations import situation_of


class Search:
    """Goes through ways until all are closed, or a situation breaks the question.

    A strategy tells whether cases of values come first; how long proofs are at most whose opposites
    are known in the cases behind them; and how many broken facts, and others, are tried out.
    """

    def __init__(self, question, strategy):
        self._frame = question.frame
        self._members = [term for term in question.members if term[0][:1] != "*"]
        self._values_first, most_cut, self._broken, self._others = strategy
        self._state = State(question, most_cut)
        self.situation = None
        self.proof = None

    def is_over(self):
        """Whether a situation or a proof is found."""
        return self.situation is not None or self.proof is not None

    def run(self, most):
        """Goes on for at most so many rounds; how many of them are left."""
        while most > 0 and not self.is_over():
            word, told = self._advance()
            most = most - 1
            if word == "closed":
                self.proof = self._state.close(told)
            elif word == "found":
                self.situation = self._situation_of(told)
            elif word == "clash":
                self._part(told)
            elif self._broken == 0:
                self._choose(told[0])
            else:
                most = self._try_out(told, most)
        return most

    def written(self):
        """The tree, where a proof is found."""
        return tree_of(self._state.first_facts, self.proof)

    def _advance(self):
        """Goes on without a choice.

        It returns ("closed", proof), ("found", candidate), ("clash", candidate), or ("choice", list)
        with the options, the best one first.
        """
        while True:
            proof = self._state.settle()
            if proof is not None:
                return ("closed", proof)
            members = [(word, 0) for word in self._state.words] + self._members
            shown = candidate_for(self._state, members)
            if shown.clash is not None:
                return ("clash", shown)
            broken = self._broken_facts(shown, members)
            if len(broken) == 0:
                return ("found", shown)
            clause, use = broken[0][2:]
            if use is None or self._weight(clause) > 1:
                return ("choice", broken[:max(1, self._broken)] + self._other_facts(shown))
            self._state.use(use[0], use[1])

    def _broken_facts(self, shown, members):
        """The options that a candidate breaks, the best ones first.

        Each is a tuple (key, number, clause, use), where `use` has an all and terms, or is None if
        the clause is known.
        """
        found = []
        there = self._mentioned()
        for clause in self._state.clauses:
            if not self._state.is_met(clause) and not shown.shows(clause.claim):
                found.append((self._key(clause, there), len(found), clause, None))
        for whole in self._state.wholes:
            for terms in shown.broken_at(whole.claim, members):
                made = self._state.book.instance(whole, terms)
                if not self._state.is_known(made):
                    found.append((self._key(made, there), len(found), made, (whole, terms)))
        return sorted(found)

    def _other_facts(self, shown):
        """Options that are true in the candidate, though none of their cases is known."""
        if self._others == 0:
            return []
        found = []
        there = self._mentioned()
        for clause in self._state.clauses:
            if not self._state.is_met(clause) and shown.shows(clause.claim):
                found.append((self._key(clause, there), len(found), clause, None))
        return sorted(found)[:self._others]

    def _mentioned(self):
        """The points in differences of values, as a dict."""
        points = {}
        for edge in self._state.levels.edges:
            points[edge[0]] = True
            points[edge[1]] = True
        return points

    def _key(self, clause, there):
        """How good it is to go on with a clause: few cases and new cells come first."""
        new = len({point for point in clause.cells if point not in there})
        return (self._weight(clause) + new, new)

    def _weight(self, fact):
        """How many cases of a fact are not barred."""
        if self._state.bars(fact):
            return 0
        weights = [self._weight(part) for part in fact.parts]
        if fact.shape == "some":
            return sum(weights)
        return max([1] + weights) if fact.shape == "every" else 1

    def _choose(self, option):
        """Makes a choice of the cases of a clause."""
        clause, use = option[2:]
        if use is not None:
            self._state.use(use[0], use[1])
        free = self._state.free_leaves(clause)
        if self._values_first:
            placed = [k for k in free if clause.leaves[k][-1].placed]
            free = [k for k in free if k not in placed] + placed
        self._state.choose("cases", clause, None, clause.leaves, free)

    def _try_out(self, options, most):
        """Makes the choice whose cases go furthest; how many rounds are left."""
        best = None
        for option in options:
            memory = self._state.memory()
            score, many = self._score(option)
            most = most - many
            if self.is_over():
                return most
            self._state.come_back(memory)
            if best is None or score < best[0]:
                best = (score, option)
            if score == 0:
                break
        self._choose(best[1])
        return most

    def _score(self, option):
        """How much all cases of an option leave to do, and how many cases there are."""
        clause, use = option[2:]
        if use is not None:
            self._state.use(use[0], use[1])
        memory = self._state.memory()
        many_edges = self._state.many_edges()
        score = 0
        free = self._state.free_leaves(clause)
        for k in free:
            self._state.step("cases", clause, None, clause.leaves, k)
            word, told = self._advance()
            if word == "found":
                self.situation = self._situation_of(told)
                break
            if word != "closed":
                score = score + worth_of(self._state.many_edges() - many_edges)
            self._state.come_back(memory)
        return (score, len(free))

    def _part(self, shown):
        """Makes a choice of the order of two positions whose cells cannot be equal."""
        best = None
        for pair in shown.clash:
            terms = self._terms_apart(pair, shown.worth)
            orders = self._state.book.orders(terms[0], terms[1])
            free = [k for k in range(3) if not self._state.bars(orders[k])]
            # With one order alone, what it says of the cells is known: other pairs are to blame.
            if len(free) > 1 and (best is None or len(free) < len(best[2])):
                best = (terms, orders, free)
        terms, orders, free = best
        self._state.choose("apart", None, terms, [[fact] for fact in orders], free)

    def _terms_apart(self, pair, worth):
        """The two terms whose order tells whether two cells are one, or whether one is outside."""
        array, word, shift = self._state.book.cell(pair[0])
        if pair[1] is not None:
            return ((word, shift), self._state.book.cell(pair[1])[1:])
        if worth[word] + shift < 0:
            return ((word, shift), ("", 0))
        return ((self._frame.length_of(array), -1), (word, shift))

    def _situation_of(self, shown):
        """The situation of a candidate."""
        positions = {word: shown.worth[word] for word in self._frame.positions}
        values = {word: shown.worth[word] for word in self._frame.amounts}
        return situation_of(self._frame, shown.table, positions, values)


def worth_of(many):
    """How much is left to do behind so many new differences, of 10000."""
    worth = 10000
    for _ in range(min(many, 30)):
        worth = worth * 17 // 20
    return worth

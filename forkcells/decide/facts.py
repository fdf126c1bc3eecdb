"""Facts as a search knows them: claims, with what they say and what nodes make of them."""

from forkcells.logic.putting import used
from forkcells.solve.differences import differences_said, point_of
from forkcells.solve.nodes import case_parts, is_not_of, whole_parts


class Fact:
    """A claim that can be known on a way.

    `shape` tells which nodes are for it: "edge" for what says differences, "every" for what adds
    its parts, "some" for what has a case for each part, "all", and "new" for a not of an all.
    """

    def __init__(self, number, claim, shape):
        self.number = number
        self.claim = claim
        self.shape = shape
        # Those that its nodes add: parts, cases, or what is said of new names.
        self.parts = []
        # For a "some" all its cases, those in cases of cases too: for each the facts that lead to it.
        self.leaves = []
        # For an "edge" its differences, by the numbers of points, and whether they are of positions.
        self.edges = []
        self.placed = False
        # The numbers of the points of all cells that stand in it, but for those in an all.
        self.cells = []
        # For a "new" its names.
        self.made = ()


class Book:
    """Makes facts, and numbers them and their points."""

    def __init__(self, frame, many_new):
        self._many = 0
        self._spare = fresh_words(frame, many_new)
        self._words = [""] + list(frame.positions) + self._spare + list(frame.lengths)
        self._spots = {self._words[k]: k for k in range(len(self._words))}
        self._points = {"": 0}
        # The cells (array, word, shift) by the numbers of their points.
        self._cells = {}
        self._made = {}

    def spot(self, word):
        """The number of a position, a length, a new name or "", each of which is a spot."""
        return self._spots[word]

    def word_of(self, spot):
        """The word of a spot."""
        return self._words[spot]

    def many_spots(self):
        """How many spots there are."""
        return len(self._words)

    def point(self, term):
        """The number of the point of a value term."""
        name = point_of(term)
        if name not in self._points:
            if len(term) == 4:
                self._cells[len(self._points)] = name
            self._points[name] = len(self._points)
        return self._points[name]

    def cell(self, point):
        """The cell (array, word, shift) of a point, or None if it is none."""
        return self._cells.get(point)

    def fact_of(self, claim):
        """A new fact for a claim."""
        made = Fact(self._many, claim, shape_of(claim))
        self._many = self._many + 1
        if made.shape == "edge":
            self._measure(made)
        elif made.shape == "every":
            made.parts = [self.fact_of(part) for part in whole_parts(claim)]
        elif made.shape == "some":
            made.parts = [self.fact_of(part) for part in case_parts(claim)]
            made.leaves = leaves_of(made.parts)
        elif made.shape == "new":
            many = len(claim[1][1])
            made.made = tuple(self._spare[:many])
            self._spare = self._spare[many:]
            guard, body = used(claim[1], [(word, 0) for word in made.made])
            made.parts = [self.fact_of(guard), self.fact_of(("not", body))]
        for part in list(made.parts):
            made.cells.extend(list(part.cells))
        return made

    def _measure(self, made):
        """Puts what an atom says into its fact."""
        atom = made.claim[1] if made.claim[0] == "not" else made.claim
        made.placed = atom[0] == "pos"
        points = {}
        for term in atom[2:]:
            name = point_of(term)
            points[name] = self.spot(name) if made.placed else self.point(term)
            if len(term) == 4:
                made.cells.append(points[name])
        for one, other, most in differences_said(made.claim):
            made.edges.append((points[one], points[other], most))

    def _kept(self, key, claim):
        """The fact that is kept under a key, with this claim."""
        if key not in self._made:
            self._made[key] = self.fact_of(claim)
        return self._made[key]

    def instance(self, whole, terms):
        """The fact that says what an all says of terms."""
        key = ("instance", whole.number, terms)
        if key not in self._made:
            guard, body = used(whole.claim, terms)
            self._made[key] = self.fact_of(("or", (("not", guard), body)))
        return self._made[key]

    def opposite(self, fact):
        """The fact that the one difference of another fact is not true."""
        claim = fact.claim
        return self._kept(("opposite", fact.number), claim[1] if claim[0] == "not" else ("not", claim))

    def orders(self, one, other):
        """The list of the three facts for the order of two position terms."""
        return [
            self._kept(("below", one, other), ("pos", "<", one, other)),
            self._kept(("above", one, other), ("pos", "<", other, one)),
            self._kept(("equal", one, other), ("pos", "==", one, other)),
        ]

    def alike(self, array, one, other):
        """The fact that the cells of an array at two position terms are equal."""
        claim = ("val", "==", (array,) + one + (0,), (array,) + other + (0,))
        return self._kept(("alike", array, one, other), claim)

    def nought(self, array, term):
        """The fact that the cell of an array at a position term is 0."""
        return self._kept(("nought", array, term), ("val", "==", (array,) + term + (0,), ("", 0)))


def shape_of(claim):
    """The shape of the fact for a claim."""
    if differences_said(claim) is not None:
        return "edge"
    if claim[0] == "all":
        return "all"
    if is_not_of(claim, "all"):
        return "new"
    return "every" if case_parts(claim) is None else "some"


def leaves_of(parts):
    """All cases of a fact with these parts, each as the list of the facts that lead to it."""
    leaves = []
    for part in parts:
        if part.shape == "some":
            leaves.extend([[part] + rest for rest in part.leaves])
        else:
            leaves.append([part])
    return leaves


def fresh_words(frame, many):
    """So many different names that are fresh for the frame."""
    words = []
    tail = ""
    while len(words) < many:
        for letter in "pqrstuvwxyzabcdefghijklmno":
            if frame.is_fresh(letter + tail) and len(words) < many:
                words.append(letter + tail)
        tail = tail + "q"
    return words

"""Values that several tests use, and plain evaluations to compare with."""

import random

from forkcells.base.frames import Frame
from forkcells.decide.follows import Asker
from forkcells.errors import ParseError, TooMany
from forkcells.logic.claims import replaced
from forkcells.solve.questions import Question
from forkcells.solve.trees import Closing
from forkcells.world.situations import Situation

FRAME = Frame((("a", "n"),), ("i", "j"), ("x",))
UPTO = ("all", ("k",), ("in", "k", ("", 0), ("i", 0)),
        ("val", "<=", ("a", "k", 0, 0), ("x", 0)))
SHOWN = Situation(FRAME, {"a": (4, 0, 7)}, {"i": 2, "j": 2}, {"x": 5})
CHAIN = (("i", "", 4), ("j", "i", -2), ("", "j", 1))
NEXT = Question(FRAME, (UPTO, ("val", "<=", ("a", "i", 0, 0), ("x", 0))),
                replaced(FRAME, UPTO, {"i": ("i", 1)}))
BROKEN = Question(FRAME, (UPTO,), replaced(FRAME, UPTO, {"i": ("i", 1)}))

# Two arrays share a length, a third one has its own; all kinds are there.
WIDE = Frame((("a", "n"), ("b", "n"), ("c", "m")), ("i", "j"), ("x", "y"))

SIXTY = 10 ** 60 - 1
LONGER = 10 ** 60

TRUE = ("and", ())
FALSE = ("or", ())


def nested(many, wrap):
    """A value that is wrapped so many times."""
    value = 1
    for _ in range(many):
        value = wrap(value)
    return value


def odd_values():
    """Values of all kinds that [0.4] names; none is what any function asks for."""
    return [
        10 ** 99, -(10 ** 99), 7, 0, -1, True, False, None, "", "A", "a b", "toolonger", "\n", "*",
        "*0", "*01", "x" * 100000, "~" * 100000, (), [], {}, (1,), [1], {1: 1}, {"a": 1},
        {True: False}, {(1, 2): [3]}, {("a", "i", True): True}, ((),), [[]], ("pos", 1), ("all", ()),
        ("not", ()), ("and", []), ("ring", 1), ("part", None), ("pos", "<=", 1, 2), ("val", [], {}, ()),
        ("all", ("k",), (), ()), ("all", (["k"],), ("and", ()), ("and", ())),
        (("part", 0, 0, 1),), (([], 0),), ({}, 0), ([], 0), (None, None), ("i", True), ("a", {}, 0, 0),
        nested(40, lambda value: (value,)), nested(40, lambda value: [value]),
        nested(40, lambda value: {"a": value}), nested(19, lambda value: ("not", value)),
        nested(19, lambda value: ("and", (value,))), FRAME, SHOWN, NEXT, Closing(NEXT),
        ParseError(3), TooMany(16), Asker(FRAME),
    ]


def without(values, *kinds):
    """The values that are of none of these kinds."""
    return [value for value in values if not isinstance(value, kinds)]


def raised(call, *told, **more):
    """The error that a call raises, or None."""
    try:
        call(*told, **more)
    except Exception as error:
        return error
    return None


def naive_term(situation, own, term):
    """What a term is; position terms and value terms alike."""
    if len(term) == 4:
        at = naive_term(situation, own, term[1:3])
        row = situation.rows[term[0]]
        return (row[at] if 0 <= at < len(row) else 0) + term[3]
    word, number = term
    if word == "":
        return number
    for table in (own, situation.positions, situation.lengths, situation.amounts):
        if word in table:
            return table[word] + number
    raise KeyError(word)


def naive_marks(situation, claim):
    """The numbers that [0.12] names."""
    marks = [-1] + list(situation.lengths.values())

    def gather(guard):
        if guard[0] in ("and", "or"):
            for part in guard[1]:
                gather(part)
        else:
            for term in guard[2:]:
                if term[0] not in claim[1]:
                    marks.append(naive_term(situation, {}, term))
    gather(claim[2])
    return marks


def naive_failures(situation, claim, beyond=0):
    """All tuples of positions from the least to the greatest mark that make an all false."""
    marks = naive_marks(situation, claim)
    places = range(min(marks) - beyond, max(marks) + beyond + 1)
    tuples = [(k,) for k in places]
    if len(claim[1]) == 2:
        tuples = [(k, m) for k in places for m in places]
    found = []
    for choice in tuples:
        own = dict(zip(claim[1], choice))
        if naive(situation, claim[2], own) and not naive(situation, claim[3], own):
            found.append(choice)
    return found


def naive(situation, claim, own=None):
    """Whether a claim is true, by the words of [0.9] to [0.12] alone."""
    own = own or {}
    word = claim[0]
    if word in ("pos", "val"):
        one = naive_term(situation, own, claim[2])
        other = naive_term(situation, own, claim[3])
        return {"<=": one <= other, "<": one < other, "==": one == other}[claim[1]]
    if word == "in":
        low = naive_term(situation, own, claim[2])
        return low <= own[claim[1]] < naive_term(situation, own, claim[3])
    if word == "not":
        return not naive(situation, claim[1], own)
    if word == "and":
        return all([naive(situation, part, own) for part in claim[1]])
    if word == "or":
        return any([naive(situation, part, own) for part in claim[1]])
    return not naive_failures(situation, claim, beyond=2)


class Maker:
    """Claims, situations and terms for a frame, made by a seeded source."""

    def __init__(self, frame, seed):
        self.frame = frame
        self.rng = random.Random(seed)

    def number(self):
        return self.rng.choice([-2, -1, 0, 0, 0, 1, 2])

    def sign(self):
        return self.rng.choice(["<=", "<", "=="])

    def place(self):
        words = ("",) + self.frame.positions + self.frame.lengths
        return (self.rng.choice(words), self.number())

    def amount(self, own=()):
        chance = self.rng.random()
        if chance < 0.3 or not self.frame.arrays:
            return (self.rng.choice(("",) + self.frame.amounts), self.number())
        array = self.rng.choice(self.frame.arrays)[0]
        if own and chance < 0.8:
            return (array, self.rng.choice(own), 0, self.number())
        return (array,) + self.place() + (self.number(),)

    def atom(self):
        if self.rng.random() < 0.5:
            return ("pos", self.sign(), self.place(), self.place())
        return ("val", self.sign(), self.amount(), self.amount())

    def guard(self, own, depth=2):
        chance = self.rng.random()
        if depth > 0 and chance < 0.4:
            parts = [self.guard(own, depth - 1) for _ in range(self.rng.randrange(3))]
            return (self.rng.choice(["and", "or"]), tuple(parts))
        if chance < 0.7:
            return ("in", self.rng.choice(own), self.place(), self.place())
        pair = [(self.rng.choice(own), 0), self.place()]
        if self.rng.random() < 0.3:
            pair[1] = (self.rng.choice(own), 0)
        self.rng.shuffle(pair)
        return ("pos", self.rng.choice(["<=", "=="]), pair[0], pair[1])

    def body(self, own, depth=2):
        chance = self.rng.random()
        if depth > 0 and chance < 0.2:
            return ("not", self.body(own, depth - 1))
        if depth > 0 and chance < 0.4:
            parts = [self.body(own, depth - 1) for _ in range(self.rng.randrange(3))]
            return (self.rng.choice(["and", "or"]), tuple(parts))
        return ("val", self.sign(), self.amount(own), self.amount(own))

    def all(self):
        own = self.rng.choice([("k",), ("q",), ("k", "q"), ("q", "k")])
        return ("all", own, self.guard(own), self.body(own))

    def claim(self, depth=3):
        chance = self.rng.random()
        if depth > 0 and chance < 0.15:
            return ("not", self.claim(depth - 1))
        if depth > 0 and chance < 0.35:
            parts = [self.claim(depth - 1) for _ in range(self.rng.randrange(4))]
            return (self.rng.choice(["and", "or"]), tuple(parts))
        return self.all() if chance < 0.7 else self.atom()

    def situation(self, most=4, reach=5):
        many = {length: self.rng.randrange(most + 1) for length in self.frame.lengths}
        rows = {}
        for array, length in self.frame.arrays:
            rows[array] = tuple([self.number() for _ in range(many[length])])
        positions = {word: self.rng.randint(-reach, reach) for word in self.frame.positions}
        values = {word: self.number() for word in self.frame.amounts}
        return Situation(self.frame, rows, positions, values)

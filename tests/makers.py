"""Functions, programs and beginnings of runs, made by a seeded source."""

import random

from forkcells.code.functions import Function
from forkcells.code.programs import Program
from forkcells.world.situations import Situation


class ProgramMaker:
    """Small programs: `wide` is the chance of a right to a whole array."""

    def __init__(self, seed, wide=0.5):
        self.rng = random.Random(seed)
        self.wide = wide

    def chance(self, part):
        return self.rng.random() < part

    def heading(self, called):
        """A function without rows."""
        rng = self.rng
        arrays = []
        lengths = rng.choice([("n", "n"), ("n", "m")])
        positions, values = ("i", "j")[:rng.randrange(3)], ("x", "y")[:rng.randrange(3)]
        for k in range(rng.choice([1, 1, 2])):
            name, length = "ab"[k], lengths[k]
            words = [""] + list(positions) + [length]
            if self.chance(self.wide):
                right = (("", 0), (length, 0))
            else:
                word, low = rng.choice(words), rng.randrange(-1, 2)
                right = ((word, low), (rng.choice([word, length]), low + rng.randrange(4)))
            if self.chance(0.7):
                arrays.append(("full", name, length, "o" + name) + right)
            else:
                arrays.append(("look", name, length) + right)
        return Function(called, arrays=tuple(arrays), positions=positions, values=values,
                        places=("p",)[:rng.randrange(2)], numbers=("v", "w")[:rng.randrange(3)])

    def place(self, function):
        words = ["", ""] + list(function.positions + function.places) + [told[2] for told in function.arrays]
        return (self.rng.choice(words), self.rng.choice([-1, 0, 0, 0, 1]))

    def amount(self, function):
        if self.chance(0.4):
            return (self.rng.choice(function.arrays)[1],) + self.place(function) + (self.rng.randrange(2),)
        return (self.rng.choice(("",) + function.amounts + function.numbers), self.rng.randrange(3))

    def condition(self, function, depth=2):
        if depth and self.chance(0.4):
            word = self.rng.choice(["not", "and", "or"])
            if word == "not":
                return (word, self.condition(function, depth - 1))
            return (word, tuple([self.condition(function, depth - 1) for _ in range(self.rng.randrange(3))]))
        sign = self.rng.choice(["<=", "<", "=="])
        if self.chance(0.4):
            return ("pos", sign, self.place(function), self.place(function))
        return ("val", sign, self.amount(function), self.amount(function))

    def call(self, function, others):
        callee = self.rng.choice(others)
        arrays, lengths = [], {}
        for told in callee.arrays:
            fitting = [mine[1] for mine in function.arrays if mine[0] == "full" or told[0] == "look"]
            fitting = [name for name in fitting
                       if lengths.get(told[2], function.frame.length_of(name)) == function.frame.length_of(name)]
            if not fitting:
                return None
            arrays.append(self.rng.choice(fitting))
            lengths[told[2]] = function.frame.length_of(arrays[-1])
        return (callee.called, tuple(arrays), tuple([self.place(function) for _ in callee.positions]),
                tuple([self.amount(function) for _ in callee.amounts]))

    def row(self, function, others, depth):
        kind = self.rng.choice(["move", "keep", "write", "write", "write", "if", "while", "fork", "fork"])
        if kind == "move" and function.places:
            return (kind, self.rng.choice(function.places), self.place(function))
        if kind == "keep" and function.numbers:
            return (kind, self.rng.choice(function.numbers), self.amount(function))
        full = [told[1] for told in function.arrays if told[0] == "full"]
        if kind == "write" and full:
            return (kind, self.rng.choice(full)) + self.place(function) + (self.amount(function),)
        if kind == "if" and depth:
            return (kind, self.condition(function), self.rows(function, others, depth - 1),
                    self.rows(function, others, depth - 1))
        if kind == "while" and depth:
            return (kind, self.condition(function), self.rows(function, others, depth - 1))
        if kind == "fork":
            calls = [self.call(function, others) for _ in range(self.rng.choice([1, 2, 2, 3]))]
            calls = [call for call in calls if call is not None]
            if calls:
                return (kind, tuple(calls))
        return None

    def rows(self, function, others, depth=1):
        rows = [self.row(function, others, depth) for _ in range(self.rng.randrange(4))]
        return tuple([row for row in rows if row is not None])

    def program(self):
        """A program, in which each function forks those behind it, and sometimes itself."""
        heads = [self.heading(called) for called in ("main", "mid", "part", "leaf")[:self.rng.choice([2, 3, 4])]]
        functions = []
        for k, head in enumerate(heads):
            others = heads[k + 1:] or [head]
            if self.chance(0.1):
                others = heads
            rows = self.rows(head, others)
            if k == len(heads) - 1 and not self.chance(0.1):
                rows = tuple([row for row in rows if row[0] in ("move", "keep", "write")])
            while True:
                made = self.fitting(head, rows)
                if made is not None:
                    break
                rows = rows[:-1]
            functions.append(made)
        return Program(tuple(functions))

    def neat_program(self):
        """A program whose forks mostly hand over rights that are apart, and look rights to another array."""
        rng = self.rng
        leaf = Function("leaf", arrays=(("full", "u", "l", "uu", ("g", 0), ("h", 0)),
                                        ("look", "w", "k", ("", 0), ("k", rng.choice([0, 0, 0, -1])))),
                        positions=("g", "h"), values=("y",), places=("q",), numbers=("v",))
        cell = (rng.choice("uw"), "g", rng.choice([0, 0, 0, 1]), 1)
        rows = [("write", "u", "g", 0, rng.choice([("y", 0), cell])), ("keep", "v", cell), ("move", "q", ("g", 1)),
                ("if", ("val", "<", cell, ("y", 0)), (("write", "u", "h", -1, ("v", 2)),), ()),
                ("while", ("and", (("pos", "<", ("q", 0), ("h", 0)), ("pos", "<=", ("g", 0), ("q", 0)),
                                   ("val", "<", ("u", "q", 0, 0), ("", 3)))),
                 (("write", "u", "q", 0, ("u", "q", 0, 1)),))]
        leaf = self.with_loops(leaf, [rng.choice(rows) for _ in range(rng.randrange(3))])
        arrays = (("full", "b", "m", "bb", ("i", 0), ("j", 0)), ("look", "d", "k", ("", 0), ("k", 0)))
        middle = Function("mid", arrays=arrays, positions=("i", "j"), values=("x",), places=("p",))
        arrays = (("full", "a", "n", "aa", ("", 0), ("n", 0)), ("look", "c", "k", ("", 0), ("k", 0)))
        main = Function("main", arrays=arrays, positions=("i",), values=("x",))
        split = ("i", rng.choice([0, 0, 0, 1]))
        halves = [("leaf", ("b", "d"), (("i", 0), ("i", 1)), (("x", 0),)),
                  ("leaf", ("b", "d"), (("i", 1), ("j", 0)), (("d", "", 0, 1),))][:rng.choice([1, 2, 2])]
        told = [("move", "p", ("i", 1)), ("fork", tuple(halves)), ("write", "b", "i", 0, ("x", 1))]
        middle = self.with_loops(middle, [rng.choice(told) for _ in range(rng.randrange(1, 3))])
        parts = [("mid", ("a", "c"), (("", 0), ("i", 0)), (("x", 0),)),
                 ("leaf", ("a", "c"), (split, ("i", 1)), (("", 2),)),
                 ("mid", ("a", "c"), (("i", 1), ("n", 0)), (("x", 1),))]
        rng.shuffle(parts)
        told = [("fork", tuple(parts[:rng.choice([2, 2, 3])])), ("write", "a", "i", 0, ("x", 0))]
        main = self.with_loops(main, told[:rng.choice([1, 1, 2])])
        return Program((main, middle, leaf))

    def with_loops(self, head, rows):
        rows = tuple(rows)
        return head.with_rows(rows, ((),) * str(rows).count("'while'"))

    def fitting(self, head, rows):
        loops = sum([str(row).count("'while'") for row in rows])
        try:
            return head.with_rows(rows, ((),) * loops)
        except ValueError:
            return None

    def beginning(self, function, most=3, least=0):
        """A situation for its start frame."""
        frame, rng = function.start_frame, self.rng
        many = {length: rng.randrange(least, most + 1) for length in frame.lengths}
        rows = {array: tuple([rng.randrange(3) for _ in range(many[length])]) for array, length in frame.arrays}
        return Situation(frame, rows, {word: rng.randrange(-1, 4) for word in frame.positions},
                         {word: rng.randrange(3) for word in frame.amounts})

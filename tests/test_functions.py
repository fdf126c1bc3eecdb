"""Part 3b: functions, their rows, notes and contracts."""

import unittest

import forkcells.code.functions as functions
from forkcells.base.frames import Frame
from forkcells.code.functions import Function
from forkcells.errors import InvalidFunction, InvalidName, InvalidNumber, InvalidOperation, UnknownName
from code_samples import BOTH, COPY, PAIR, SET
from samples import nested, odd_values, raised

ARRAYS = (("full", "a", "n", "aa", ("", 0), ("n", 0)), ("look", "b", "m", ("i", 0), ("m", 1)))
FULL = (("full", "a", "n", "aa", ("", 0), ("n", 0)), ("full", "b", "n", "bb", ("i", 0), ("n", 0)))
THIRD = ("look", "c", "n", ("i", 0), ("n", 0))
LEAF = ("pos", "<", ("i", 0), ("n", 0))
FORTY = 10 ** 40 - 1


def made(**more):
    told = {"arrays": ARRAYS, "positions": ("i", "j"), "values": ("x",), "places": ("p", "q"), "numbers": ("v",)}
    return Function("f", **{**told, **more})


def rows_made(*rows):
    """With as many notes as there are loops."""
    return made(rows=rows, notes=((),) * str(rows).count("'while'"))


def deep(many, row):
    """A row that stands so deep in others."""
    for k in range(many):
        row = ("if", LEAF, (row,), ()) if k % 2 else ("if", LEAF, (), (row,))
    return row


def claim_of(depth):
    claim = LEAF
    for k in range(depth - 1):
        claim = ("not", claim) if k % 2 else ("and", (claim, LEAF))
    return claim


def claim_of_number(number):
    return ("pos", "<", ("", 0), ("", number))


class Headings(unittest.TestCase):
    def good(self, **more):
        self.assertIsNone(raised(made, **more), more)

    def bad(self, **more):
        self.assertIsInstance(raised(made, **more), InvalidFunction, more)

    def test_constants(self):
        self.assertEqual([functions.MAX_ROWS, functions.MAX_LOOPS, functions.MAX_INSIDE, functions.MAX_CLAIMS,
                          functions.MAX_BRANCHES], [24, 4, 4, 4, 3])

    def test_name(self):
        for value in odd_values():
            self.assertIsInstance(raised(Function, value), InvalidName)
            # The name comes ahead of all else.
            self.assertIsInstance(raised(Function, value, arrays=None), InvalidName)
        self.assertEqual(str(Function("f")), "f: 0 rows, 0 loops")

    def test_nothing(self):
        empty = Function("f")
        self.assertEqual([empty.called, empty.arrays, empty.positions, empty.amounts, empty.places, empty.numbers,
                          empty.rows, empty.notes, empty.before, empty.after, empty.conditions, empty.callees],
                         ["f"] + [()] * 11)
        self.assertTrue(empty.frame == empty.start_frame == empty.end_frame == Frame((), (), ()))
        self.assertEqual((len(empty), list(empty)), (0, []))

    def test_arrays(self):
        self.good(arrays=())
        self.good(arrays=FULL)
        self.good(arrays=FULL + (THIRD,))
        self.good(arrays=(THIRD,) + FULL)
        self.bad(arrays=FULL + (THIRD, ("look", "d", "n", ("i", 0), ("n", 0))))
        self.bad(arrays=FULL + (("full", "c", "n", "cc", ("i", 0), ("n", 0)),))
        self.bad(arrays=list(ARRAYS))
        for wrong in (("full", "a", "n", ("", 0), ("n", 0)), ("look", "a", "n", "aa", ("", 0), ("n", 0)),
                      ("both", "a", "n", ("", 0), ("n", 0)), ["look", "a", "n", ("", 0), ("n", 0)], (), ("look",),
                      ("look", "A", "n", ("", 0), ("n", 0)), ("look", "a", "N", ("", 0), ("n", 0)),
                      ("full", "a", "n", "", ("", 0), ("n", 0)), ("full", "a", "n", 1, ("", 0), ("n", 0)),
                      ("full", "a", "n", ["x"], ("", 0), ("n", 0)), (["full"], "a", "n", "aa", ("", 0), ("n", 0))):
            self.bad(arrays=(wrong,))
        for value in odd_values():
            if value != ():
                self.bad(arrays=value)
            self.bad(arrays=(value,))

    def test_rights(self):
        for term in (("", 5), ("i", -1), ("j", 0), ("n", 0), ("m", 2), ("", -FORTY), ("i", FORTY)):
            self.good(arrays=(("look", "a", "n", term, ("n", 0)), ARRAYS[1]))
            self.good(arrays=(("look", "a", "n", ("", 0), term), ARRAYS[1]))
        for term in (("p", 0), ("x", 0), ("v", 0), ("a", 0), ("h", 0), ("i", True), ("i",), ["i", 0], ("i", 0, 0), None,
                     ("aa", 0), ("i", FORTY + 1), ("", -FORTY - 1)):
            self.bad(arrays=(("look", "a", "n", term, ("n", 0)), ARRAYS[1]))
            self.bad(arrays=(("full", "a", "n", "aa", ("", 0), term), ARRAYS[1]))

    def test_how_many_there_can_be(self):
        self.good(positions=tuple("ijkl"))
        self.bad(positions=tuple("ijklh"))
        self.good(values=tuple("xyz"))
        self.bad(values=tuple("xyzw"))
        self.good(places=tuple("pqr"))
        self.bad(places=tuple("pqrs"))
        self.good(numbers=tuple("vwx")[:2])
        self.good(numbers=tuple("vwu"))
        self.bad(numbers=tuple("vwus"))
        self.good(arrays=FULL + (THIRD,), positions=tuple("ijkl"), values=tuple("xyz"), places=tuple("pqr"),
                  numbers=tuple("vwu"))

    def test_names_are_different(self):
        for word in ("a", "aa", "b", "n", "m", "i", "x", "p", "v", "I", "", None, 1, ["h"], "toolonger"):
            if word != "i":
                self.bad(positions=("i", word))
            self.bad(values=("x", word))
            self.bad(places=("p", word))
            self.bad(numbers=("v", word))
            self.bad(arrays=(("full", "a", "n", word, ("", 0), ("n", 0)), ARRAYS[1])) if word != "aa" else None
        # The name of the function stands apart, and lengths can be shared.
        self.assertIsNone(raised(Function, "i", positions=("i",)))
        self.assertIsNone(raised(made, arrays=FULL))

    def test_other_kinds(self):
        for word in ("positions", "values", "places", "numbers", "rows", "notes", "before", "after"):
            for value in odd_values():
                if value != ():
                    self.bad(**{word: value})
            self.bad(**{word: ["i"]})

    def test_frames(self):
        told = made(arrays=FULL + (THIRD,))
        self.assertEqual(told.start_frame.arrays, (("a", "n"), ("b", "n"), ("c", "n")))
        self.assertEqual(told.frame.arrays, (("a", "n"), ("b", "n"), ("c", "n"), ("aa", "n"), ("bb", "n")))
        self.assertEqual(told.end_frame.arrays, told.frame.arrays)
        self.assertEqual((told.frame.positions, told.frame.amounts), (("i", "j", "p", "q"), ("x", "v")))
        for frame in (told.start_frame, told.end_frame):
            self.assertEqual((frame.positions, frame.amounts), (("i", "j"), ("x",)))
        self.assertEqual((told.positions, told.amounts, told.places, told.numbers), (("i", "j"), ("x",), ("p", "q"), ("v",)))

    def test_ways_and_rights(self):
        told = made()
        self.assertEqual([told.way_of("a"), told.way_of("b")], ["full", "look"])
        self.assertEqual([told.right_of("a"), told.right_of("b")], [(("", 0), ("n", 0)), (("i", 0), ("m", 1))])
        for value in odd_values() + ["n", "aa", "i", "f", "c", ["a"], ("a",)]:
            for call in (told.way_of, told.right_of):
                error = raised(call, value)
                self.assertIsInstance(error, UnknownName)
                self.assertIs(error.name, value)


class Rows(unittest.TestCase):
    def good(self, *rows):
        self.assertIsNone(raised(rows_made, *rows), rows)

    def bad(self, *rows):
        self.assertIsInstance(raised(rows_made, *rows), InvalidFunction, rows)

    def test_move(self):
        for term in (("", 3), ("i", 0), ("p", 1), ("n", -1), ("m", 0), ("q", FORTY)):
            self.good(("move", "p", term))
        for term in (("x", 0), ("a", 0), ("aa", 0), ("h", 0), ("i", True), ("i",), ("i", FORTY + 1), ("a", "i", 0, 0)):
            self.bad(("move", "p", term))
        for word in ("i", "x", "v", "n", "a", "h", "", None, ["p"], 1):
            self.bad(("move", word, ("i", 0)))
        self.bad(("move", "p"))
        self.bad(("move", "p", ("i", 0), ("i", 0)))

    def test_keep(self):
        for term in (("", 3), ("x", 0), ("v", -1), ("a", "i", 0, 0), ("b", "p", -1, 2), ("a", "n", -1, FORTY)):
            self.good(("keep", "v", term))
        for term in (("i", 0), ("aa", "i", 0, 0), ("h", 0), ("c", "i", 0, 0), ("a", "x", 0, 0), ("a", "i", True, 0),
                     ("a", "i", FORTY + 1, 0), ("a", "i", 0, -FORTY - 1), ("a", "i", 0)):
            self.bad(("keep", "v", term))
        for word in ("x", "p", "i", "a", None, ["v"]):
            self.bad(("keep", word, ("x", 0)))
        self.bad(("keep", "v"))

    def test_write(self):
        self.good(("write", "a", "i", 2, ("x", 0)))
        self.good(("write", "a", "", 0, ("b", "q", 0, 1)))
        self.good(("write", "a", "n", -1, ("a", "i", 0, 1)))
        for array in ("b", "aa", "n", "c", None, ["a"]):
            self.bad(("write", array, "i", 0, ("x", 0)))
        for name, shift in (("x", 0), ("a", 0), ("i", True), ("i", FORTY + 1), (None, 0), (["i"], 0)):
            self.bad(("write", "a", name, shift, ("x", 0)))
        self.bad(("write", "a", "i", 0, ("i", 0)))
        self.bad(("write", "a", "i", 0, ("aa", "i", 0, 0)))
        self.bad(("write", "a", ("i", 0), ("x", 0)))

    def test_conditions(self):
        for condition in (LEAF, ("val", "==", ("a", "p", 0, 0), ("v", 1)), ("and", ()), ("or", ()), ("not", LEAF),
                          ("or", (LEAF, ("and", (LEAF, LEAF))))):
            self.good(("if", condition, (), ()))
            self.good(("while", condition, ()))
        whole = ("all", ("k",), ("in", "k", ("", 0), ("n", 0)), ("and", ()))
        for condition in (whole, ("not", whole), ("and", (LEAF, ("or", (whole,)))),
                          ("val", "==", ("aa", "i", 0, 0), ("x", 0)), ("pos", "<", ("h", 0), ("i", 0)), None, (), True,
                          ("in", "i", ("", 0), ("n", 0)), ("pos", "<", ("i", FORTY + 1), ("n", 0))):
            self.bad(("if", condition, (), ()))
            self.bad(("while", condition, ()))

    def test_depth_of_conditions(self):
        for depth, call in ((1, self.good), (10, self.good), (11, self.good), (12, self.bad), (13, self.bad)):
            call(("if", claim_of(depth), (), ()))
            call(("while", claim_of(depth), ()))

    def test_forms(self):
        for wrong in (("if", LEAF, ()), ("if", LEAF, (), (), ()), ("while", LEAF), ("while", LEAF, (), ()), ("stop",),
                      ("if", LEAF, [], ()), ("while", LEAF, None), ["move", "p", ("i", 0)], "move", (), None, ("fork",)):
            self.bad(wrong)
        self.bad(("if", LEAF, (("stop",),), ()))
        self.bad(("if", LEAF, (), (("stop",),)))
        self.bad(("while", LEAF, (("stop",),)))
        for value in odd_values():
            self.bad(value)
            for word in ("move", "keep", "write", "if", "while", "fork"):
                self.bad((word, value))
                self.bad((word, value, value))
                self.bad((word, value, value, value))
        self.bad(nested(39, lambda value: ("while", LEAF, (value,))))

    def test_forks(self):
        call = ("g", ("a", "b"), (("i", 0),), (("x", 0), ("a", "p", 0, 0)))
        self.good(("fork", (call,)))
        self.good(("fork", (call, call)))
        self.good(("fork", (call, call, call)))
        self.bad(("fork", ()))
        self.bad(("fork", (call,) * 4))
        self.bad(("fork", [call]))
        self.bad(("fork", call))
        self.good(("fork", (("f", (), (), ()),)))
        self.good(("fork", (("g", ("a", "a", "b"), (("i", 0), ("p", 0), ("n", 0), ("", 1)),
                             (("x", 0), ("v", 0), ("", 1))),)))
        for wrong in (("g", ("a",) * 4, (), ()), ("g", (), (("i", 0),) * 5, ()), ("g", (), (), (("x", 0),) * 4),
                      ("G", (), (), ()), (None, (), (), ()), ("g", ("aa",), (), ()), ("g", ("n",), (), ()),
                      ("g", ("c",), (), ()), ("g", (["a"],), (), ()), ("g", (), (("x", 0),), ()),
                      ("g", (), (), (("i", 0),)), ("g", (), (), (("aa", "i", 0, 0),)), ("g", (), ()),
                      ("g", (), (), (), ()), ["g", (), (), ()], ("g", ["a"], (), ()), ("g", (), [("i", 0)], ()),
                      ("g", (), (), [("x", 0)]), ("g", (), (("i", FORTY + 1),), ()), ("g", (), (), (("x", FORTY + 1),))):
            self.bad(("fork", (wrong,)))
            self.bad(("fork", (call, wrong)))

    def test_how_deep_rows_stand(self):
        leaf = ("move", "p", ("i", 0))
        for row in (leaf, ("fork", (("g", (), (), ()),)), ("while", LEAF, ()), ("if", LEAF, (), ())):
            for many in range(5):
                self.good(deep(many, row))
            self.bad(deep(5, row))
        loop = leaf
        for _ in range(4):
            loop = ("while", LEAF, (loop,))
        self.good(loop)
        self.bad(("if", LEAF, (), (loop,)))

    def test_twentyfour_rows(self):
        leaf = ("move", "p", ("i", 0))
        self.good(*[leaf] * 24)
        self.bad(*[leaf] * 25)
        self.good(*[leaf] * 20, ("if", LEAF, (leaf,), (leaf, leaf)))
        self.bad(*[leaf] * 21, ("if", LEAF, (leaf,), (leaf, leaf)))
        # A fork is one row.
        self.good(*[("fork", (("g", (), (), ()),) * 3)] * 24)

    def test_four_loops(self):
        loop = ("while", LEAF, ())
        self.good(*[loop] * 4)
        self.bad(*[loop] * 5)
        self.good(("while", LEAF, (loop, loop)), ("if", LEAF, (), (loop,)))
        self.bad(("while", LEAF, (loop, loop)), ("if", LEAF, (loop,), (loop,)))

    def test_numbers_of_rows_and_loops(self):
        told = rows_made(
            ("move", "p", ("i", 0)),                                     # 0
            ("while", claim_of(1), (                                     # 1, loop 0
                ("if", LEAF, (("keep", "v", ("x", 1)),                   # 2, 3
                              ("while", claim_of(2), (("move", "q", ("i", 1)),))),    # 4, loop 1, 5
                 (("write", "a", "i", 0, ("x", 0)),)),                   # 6
                ("while", claim_of(3), ()))),                            # 7, loop 2
            ("fork", (("g", (), (), ()), ("g", (), (), ()))),            # 8
            ("while", claim_of(4), (("keep", "v", ("x", 2)),)))          # 9, loop 3, 10
        words = ["move", "while", "if", "keep", "while", "move", "write", "while", "fork", "while", "keep"]
        self.assertEqual([row[0] for row in told], words)
        self.assertEqual([told.row(k)[0] for k in range(11)], words)
        self.assertEqual([told.loop_of(k) for k in range(11)], [None, None, 0, 0, 0, 1, 0, 0, None, None, 3])
        self.assertEqual(told.conditions, tuple([claim_of(k) for k in (1, 2, 3, 4)]))
        self.assertEqual(told.row(4), ("while", claim_of(2), (("move", "q", ("i", 1)),)))
        self.assertEqual((len(told), str(told)), (11, "f: 11 rows, 4 loops"))
        for value in odd_values() + [11, -1, True, None, "0", (0,)]:
            if isinstance(value, bool) or not isinstance(value, int) or not 0 <= value < 11:
                for call in (told.row, told.loop_of):
                    error = raised(call, value)
                    self.assertIsInstance(error, InvalidNumber)
                    self.assertIs(error.number, value)

    def test_callees(self):
        told = rows_made(("fork", (("g", (), (), ()), ("b", (), (), ()))),
                         ("if", LEAF, (("fork", (("g", (), (), ()),)),), (("fork", (("f", (), (), ()),)),)))
        self.assertEqual(told.callees, ("b", "f", "g"))


class Claims(unittest.TestCase):
    LOOP = (("while", LEAF, ()),)

    def test_before(self):
        good = (LEAF, ("val", "<", ("a", "i", 0, 0), ("x", 0)),
                ("all", ("k",), ("in", "k", ("", 0), ("n", 0)), ("val", "<", ("b", "k", 0, 0), ("x", 0))),
                # Locals and was names are none of its frame, so they are fresh for it.
                ("all", ("p", "aa"), ("pos", "<=", ("p", 0), ("aa", 0)), ("and", ())))
        bad = (("pos", "<", ("p", 0), ("n", 0)), ("val", "<", ("v", 0), ("x", 0)),
               ("val", "<", ("aa", "i", 0, 0), ("x", 0)), ("pos", "<", ("i", FORTY + 1), ("n", 0)),
               ("all", ("i",), ("in", "i", ("", 0), ("n", 0)), ("and", ())), None, claim_of(13))
        for claim in good:
            self.assertIsNone(raised(made, before=(claim,)))
        for claim in bad:
            self.assertIsInstance(raised(made, before=(claim,)), InvalidFunction)
            self.assertIsInstance(raised(made, before=(LEAF, claim)), InvalidFunction)
        self.assertIsNone(raised(made, before=(claim_of(12),)))

    def test_after(self):
        good = (LEAF, ("val", "<", ("aa", "i", 0, 0), ("a", "i", 0, 0)),
                ("all", ("p",), ("in", "p", ("", 0), ("n", 0)), ("val", "<", ("aa", "p", 0, 0), ("x", 0))))
        bad = (("pos", "<", ("p", 0), ("n", 0)), ("val", "<", ("v", 0), ("x", 0)),
               ("all", ("aa",), ("in", "aa", ("", 0), ("n", 0)), ("and", ())),
               ("val", "<", ("x", -FORTY - 1), ("x", 0)), (), claim_of(13))
        for claim in good:
            self.assertIsNone(raised(made, after=(claim,)))
        for claim in bad:
            self.assertIsInstance(raised(made, after=(claim,)), InvalidFunction)

    def test_notes(self):
        good = (LEAF, ("val", "<", ("aa", "p", 0, 0), ("v", 0)), ("pos", "<", ("p", 0), ("q", 0)),
                ("all", ("k",), ("in", "k", ("p", 0), ("n", 0)), ("val", "<", ("aa", "k", 0, 0), ("v", 0))))
        bad = (("all", ("p",), ("in", "p", ("", 0), ("n", 0)), ("and", ())), ("pos", "<", ("h", 0), ("n", 0)),
               ("pos", "<", ("p", FORTY + 1), ("n", 0)), None, claim_of(13))
        for claim in good:
            self.assertIsNone(raised(made, rows=self.LOOP, notes=((claim,),)))
        for claim in bad:
            self.assertIsInstance(raised(made, rows=self.LOOP, notes=((claim,),)), InvalidFunction)

    def test_how_many(self):
        for many, kind in ((0, type(None)), (4, type(None)), (5, InvalidFunction)):
            claims = (LEAF,) * many
            self.assertIsInstance(raised(made, before=claims), kind)
            self.assertIsInstance(raised(made, after=claims), kind)
            self.assertIsInstance(raised(made, rows=self.LOOP, notes=(claims,)), kind)

    def test_notes_for_each_loop(self):
        for rows, notes, good in ((self.LOOP, ((),), True), (self.LOOP, (), False), (self.LOOP, ((), ()), False),
                                  ((), (), True), ((), ((),), False), (self.LOOP * 2, ((), (LEAF,)), True),
                                  (self.LOOP, (LEAF,), False), (self.LOOP, ([LEAF],), False), (self.LOOP, [()], False)):
            error = raised(made, rows=rows, notes=notes)
            self.assertIs(error is None, good, (rows, notes))
            self.assertTrue(good or isinstance(error, InvalidFunction))

    def test_forty_digits(self):
        for number, good in ((FORTY, True), (-FORTY, True), (FORTY + 1, False), (-FORTY - 1, False)):
            claim = ("pos", "<", ("i", number), ("n", 0))
            cell = ("val", "<", ("a", "i", number, 0), ("x", 0))
            whole = ("all", ("k",), ("in", "k", ("", number), ("n", 0)), ("and", ()))
            for one in (claim, cell, whole, ("not", ("or", (claim,)))):
                for more in ({"before": (one,)}, {"after": (one,)}, {"rows": self.LOOP, "notes": ((one,),)}):
                    error = raised(made, **more)
                    self.assertTrue(error is None if good else isinstance(error, InvalidFunction), (one, more))


class Making(unittest.TestCase):
    def test_with_rows(self):
        rows = (("while", LEAF, ()),)
        told = SET.with_rows((("write", "p", "g", 0, ("y", 1)),), ())
        self.assertEqual((told.rows, told.arrays, told.called), ((("write", "p", "g", 0, ("y", 1)),), SET.arrays, "set"))
        self.assertEqual(COPY.with_rows((), ()).before, COPY.before)
        self.assertIsInstance(raised(SET.with_rows, rows, ((),)), InvalidFunction)
        self.assertIsInstance(raised(COPY.with_rows, (), COPY.notes), InvalidFunction)
        for value in odd_values():
            if value != ():
                self.assertIsInstance(raised(SET.with_rows, value, ()), InvalidFunction)
                self.assertIsInstance(raised(SET.with_rows, SET.rows, value), InvalidFunction)

    def test_with_notes(self):
        told = COPY.with_notes(0, (("pos", "<=", ("i", 0), ("t", 0)),))
        self.assertEqual(told.notes, ((("pos", "<=", ("i", 0), ("t", 0)),),))
        self.assertEqual(told.rows, COPY.rows)
        loops = Function("f", rows=(("while", ("and", ()), ()), ("while", ("or", ()), ())), notes=((), ()))
        self.assertEqual(loops.with_notes(1, (("and", ()),)).notes, ((), (("and", ()),)))
        four = Function("f", rows=(("while", ("and", ()), ()),) * 4, notes=tuple([(claim_of_number(k),) for k in range(4)]))
        for k in range(4):
            notes = list(four.notes)
            notes[k] = (claim_of_number(9),)
            self.assertEqual(four.with_notes(k, (claim_of_number(9),)).notes, tuple(notes))
        for value in (1, -1, True, None, "0", 10 ** 99, (0,), [0]):
            error = raised(COPY.with_notes, value, None)
            self.assertIsInstance(error, InvalidNumber)
            self.assertEqual(error.number, value)
        self.assertIsInstance(raised(SET.with_notes, 0, ()), InvalidNumber)
        self.assertIsInstance(raised(COPY.with_notes, 0, (("and", ()),) * 5), InvalidFunction)
        for value in odd_values():
            if value != ():
                self.assertIsInstance(raised(COPY.with_notes, 0, value), InvalidFunction)

    def test_with_contract(self):
        told = COPY.with_contract((), COPY.before)
        self.assertEqual((told.before, told.after, told.rows, told.notes), ((), COPY.before, COPY.rows, COPY.notes))
        self.assertIsInstance(raised(COPY.with_contract, COPY.after, ()), InvalidFunction)
        self.assertIsInstance(raised(COPY.with_contract, (), None), InvalidFunction)

    def test_called_as(self):
        told = PAIR.called_as("other")
        self.assertEqual((told.called, told.rows), ("other", PAIR.rows))
        self.assertFalse(told == PAIR)
        for value in odd_values():
            self.assertIsInstance(raised(PAIR.called_as, value), InvalidName)

    def test_relabeled(self):
        told = COPY.relabeled({"a": "u", "old": "was", "n": "l", "s": "low", "t": "high", "x": "bound", "i": "at",
                               "v": "here", "b": "from"})
        whole = ("all", ("k",), ("in", "k", ("low", 0), ("at", 0)),
                 ("val", "==", ("u", "k", 0, 0), ("from", "k", 0, 0)))
        self.assertTrue(told == Function(
            "copy",
            arrays=(("full", "u", "l", "was", ("low", 0), ("high", 0)), ("look", "from", "l", ("low", 0), ("high", 0))),
            positions=("low", "high"), values=("bound",), places=("at",), numbers=("here",),
            rows=(
                ("move", "at", ("low", 0)),
                ("while", ("pos", "<", ("at", 0), ("high", 0)), (
                    ("keep", "here", ("from", "at", 0, 0)),
                    ("if", ("val", "<", ("here", 0), ("bound", 0)), (("write", "u", "at", 0, ("here", 0)),), (
                        ("write", "u", "at", 0, ("bound", 0)),)),
                    ("move", "at", ("at", 1)))),
                ("keep", "here", ("bound", 1))),
            notes=((whole, ("pos", "<=", ("low", 0), ("at", 0))),),
            before=(("pos", "<=", ("low", 0), ("high", 0)),),
            # The own name i is fresh for the end frame: locals are none of it.
            after=(("all", ("i",), ("in", "i", ("high", 0), ("l", 0)),
                    ("val", "==", ("u", "i", 0, 0), ("was", "i", 0, 0))),)))

    def test_relabeled_with_names_exchanged(self):
        names = {"a": "b", "b": "a", "s": "i", "i": "s", "x": "v", "v": "x", "n": "old", "old": "n"}
        told = COPY.relabeled(names)
        self.assertEqual(told.arrays, (("full", "b", "old", "n", ("i", 0), ("t", 0)),
                                       ("look", "a", "old", ("i", 0), ("t", 0))))
        self.assertEqual((told.positions, told.amounts, told.places, told.numbers), (("i", "t"), ("v",), ("s",), ("x",)))
        self.assertEqual(told.rows[0], ("move", "s", ("i", 0)))
        self.assertEqual(told.row(2), ("keep", "x", ("a", "s", 0, 0)))
        self.assertEqual(told.notes[0][0], ("all", ("k",), ("in", "k", ("i", 0), ("s", 0)),
                                            ("val", "==", ("b", "k", 0, 0), ("a", "k", 0, 0))))
        # i is a parameter now, so the own name i of the last claim is not fresh.
        self.assertEqual(told.after[0][1], ("k",))
        self.assertTrue(told.relabeled(names).rows == COPY.rows)

    def test_relabeled_with_own_names(self):
        told = COPY.relabeled({"i": "k"})
        self.assertEqual(told.notes[0][0][1], ("kk",))
        self.assertEqual(told.notes[0][0][2], ("in", "kk", ("s", 0), ("k", 0)))
        # For the end frame k is fresh: the local is not in it.
        self.assertEqual(told.after, COPY.after)
        self.assertEqual(COPY.relabeled({"s": "i", "i": "s"}).after[0][1], ("k",))
        twice = Function("f", positions=("i",), before=(("all", ("k", "q"), ("pos", "<=", ("k", 0), ("q", 0)),
                                                         ("and", ())),))
        self.assertEqual(twice.relabeled({"i": "q"}).before[0][1:3], (("k", "kk"), ("pos", "<=", ("k", 0), ("kk", 0))))
        self.assertEqual(twice.relabeled({"i": "k"}).before[0][1:3], (("kk", "q"), ("pos", "<=", ("kk", 0), ("q", 0))))

    def test_relabeled_forks(self):
        told = PAIR.relabeled({"a": "i", "i": "a"})
        self.assertEqual(told.rows, (("fork", (("set", ("i",), (("", 0),), (("", 1),)),
                                               ("set", ("i",), (("a", 1),), (("", 2),)))),))
        self.assertTrue(PAIR.relabeled({}) == PAIR)
        self.assertTrue(PAIR.relabeled({"a": "a"}) == PAIR)

    def test_relabeled_errors(self):
        for names in ({"set": "f"}, {"k": "q"}, {"a": "n"}, {"a": "q", "b": "q"}, {"a": "A"}, {"a": None}, {1: "a"},
                      {"a": "i"}, {("a",): "b"}, {"a": ["b"]}, {"s": "v"}, None, (), [], "a", 1):
            self.assertIsInstance(raised(COPY.relabeled, names), InvalidOperation)
        for value in odd_values():
            if value != {}:
                self.assertIsInstance(raised(COPY.relabeled, value), InvalidOperation)

    def test_functions_do_not_change(self):
        before = (str(COPY), COPY.rows, COPY.notes, COPY.before, COPY.after, COPY.arrays)
        COPY.relabeled({"a": "z"}), COPY.with_rows((), ()), COPY.with_notes(0, ()), COPY.with_contract((), ())
        COPY.called_as("z")
        self.assertEqual((str(COPY), COPY.rows, COPY.notes, COPY.before, COPY.after, COPY.arrays), before)

    def test_equality(self):
        self.assertTrue(SET == Function("set", arrays=SET.arrays, positions=("g",), values=("y",), rows=SET.rows))
        told = {"positions": ("i", "p"), "values": ("x", "v"), "places": (), "numbers": ()}
        one = Function("f", **told)
        for more in ({"positions": ("i",), "places": ("p",)}, {"values": ("x",), "numbers": ("v",)},
                     {"positions": ("p", "i")}, {"before": (("and", ()),)}, {"after": (("and", ()),)},
                     {"rows": (("if", ("and", ()), (), ()),)}, {"arrays": (("look", "a", "n", ("", 0), ("n", 0)),)}):
            self.assertFalse(one == Function("f", **{**told, **more}), more)
        wide = (("look", "a", "n", ("", 0), ("n", 0)),)
        self.assertFalse(Function("f", arrays=wide) == Function("f", arrays=(("look", "a", "n", ("", 0), ("n", 1)),)))
        self.assertFalse(one == one.called_as("g"))
        self.assertTrue(one != one.called_as("g"))
        for value in odd_values() + [BOTH]:
            self.assertFalse(one == value)

    def test_iteration(self):
        self.assertEqual(list(PAIR), [PAIR.rows[0]])
        self.assertEqual([row[0] for row in COPY], ["move", "while", "keep", "if", "write", "write", "move", "keep"])
        self.assertEqual([COPY.loop_of(k) for k in range(8)], [None, None, 0, 0, 0, 0, 0, None])


if __name__ == "__main__":
    unittest.main()

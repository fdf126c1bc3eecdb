"""Parts 4 and 4a: runs, step by step."""

import unittest

from forkcells.code.functions import Function
from forkcells.code.programs import Program
from forkcells.errors import (InvalidNumber, InvalidOperation, InvalidProgram, InvalidSituation, NothingToUndo,
                              UnknownName)
from forkcells.runs.runs import Run
from forkcells.world.situations import Situation
from code_samples import BOTH, COPY, NOUGHTS, ONECELL, ONES, PAIR, SET
from makers import ProgramMaker
from naive_runs import NaiveRun
from samples import SIXTY, odd_values, raised

YES, NO = ("and", ()), ("or", ())
WHOLE = ("full", "a", "n", "old", ("", 0), ("n", 0))


def function(called, *rows, **more):
    """With the array a, fully usable, unless it is told otherwise."""
    notes = ((),) * str(rows).count("'while'")
    return Function(called, **{"arrays": (WHOLE,), "rows": rows, "notes": notes, **more})


def fork(*calls):
    return ("fork", tuple([call + ((),) * (4 - len(call)) for call in calls]))


def put(position, number):
    return ("write", "a", "", position, ("", number))


def started(functions, row=(), positions=None, values=None, **more):
    """A run of the first function."""
    program = Program(functions)
    frame = functions[0].start_frame
    rows = row if isinstance(row, dict) else {array: tuple(row) for array, _ in frame.arrays}
    return Run(program, functions[0].called, Situation(frame, rows, positions or {}, values or {}), **more)


def words(run):
    """The rows of all steps, as path and row."""
    return [(path, row) for path, _, row in run.trail]


class Example(unittest.TestCase):
    def test_document(self):
        run = Run(BOTH, "pair", ONES)
        self.assertEqual(
            [run.active, run.go(()), run.active, run.waiting, run.right_at((1,), "p"), run.touches((1,)), run.go((1,)),
             run.sight((0,)).cell("p", 1), run.places, str(run)],
            [((),), ((), "pair", 0), ((0,), (1,)), ((),), (1, 2), (("a", 1, "write"),), ((1,), "set", 0), 1,
             {"a": (1, 2, 1)}, "run of pair: 2 steps, 1 active"])
        self.assertEqual((run.go((0,)), str(run)), (((0,), "set", 0), "run of pair: 3 steps, done"))
        self.assertEqual(str(run.end), "a=1 2 1 aa=1 1 1 | i=0 | -")


class Steps(unittest.TestCase):
    """[4.1], [4.2]"""

    def test_a_function_without_rows(self):
        run = started((function("f"),), (4, 5))
        self.assertTrue(run.is_done() and run.is_over())
        self.assertEqual((run.active, run.waiting, run.stuck, run.schedule, len(run)), ((), (), (), (), 0))
        self.assertEqual(str(run), "run of f: 0 steps, done")
        self.assertEqual(str(run.end), "a=4 5 old=4 5 | - | -")
        self.assertEqual(run.go_on(), 0)

    def test_rows_deep_in_others(self):
        rows = (("move", "p", ("i", 1)),                                              # 0
                ("if", ("pos", "<", ("p", 0), ("", 5)),                                # 1
                 (("if", NO, (), (put(0, 7),)), ("keep", "v", ("a", "", 0, 1))),       # 2, 3, 4
                 (put(0, 1),)),                                                        # 5
                ("while", ("pos", "<", ("p", 0), ("", 4)), (("move", "p", ("p", 1)),)),    # 6, 7
                ("keep", "w", ("v", 2)))                                               # 8
        told = function("f", *rows, positions=("i",), places=("p",), numbers=("v", "w"))
        run = started((told,), (0, 0), {"i": 1})
        self.assertEqual(run.go_on(most=10), 10)
        self.assertEqual([row for _, row in words(run)], [0, 1, 2, 3, 4, 6, 7, 6, 7, 6])
        self.assertEqual(run.row_at(()), ("f", 8))
        self.assertEqual((run.sight(()).positions, run.sight(()).amounts), ({"i": 1, "p": 4}, {"v": 8, "w": 0}))
        self.assertEqual(run.go(()), ((), "f", 8))
        self.assertTrue(run.is_done())
        other = started((told,), (0, 0), {"i": 4})
        self.assertEqual(other.go_on(), 5)
        self.assertEqual([row for _, row in words(other)], [0, 1, 5, 6, 8])
        self.assertEqual(other.places, {"a": (1, 0)})

    def test_empty_rows(self):
        run = started((function("f", ("if", YES, (), (put(0, 1),)), ("if", NO, (put(0, 2),), ()), ("while", NO, ())),), (0,))
        self.assertEqual((run.go_on(), run.places), (3, {"a": (0,)}))
        self.assertTrue(run.is_done())

    def test_a_condition_is_asked_again(self):
        run = started((function("f", ("while", YES, ())),), (0,))
        self.assertEqual((run.go_on(most=7), run.active, str(run)), (7, ((),), "run of f: 7 steps, 1 active"))
        loop = ("while", ("val", "<", ("a", "", 0, 0), ("", 3)), (
            ("while", ("val", "<", ("a", "", 1, 0), ("", 2)), (("write", "a", "", 1, ("a", "", 1, 1)),)),
            ("write", "a", "", 0, ("a", "", 0, 1))))
        run = started((function("f", loop),), (1, 0))
        self.assertEqual(run.go_on(), 11)
        self.assertEqual([row for _, row in words(run)], [0, 1, 2, 1, 2, 1, 3, 0, 1, 3, 0])
        self.assertEqual(run.places, {"a": (3, 2)})

    def test_forks_behind_forks(self):
        leaf = function("leaf", ("write", "a", "", 0, ("a", "", 0, 1)))
        run = started((function("f", fork(("leaf", ("a",))), fork(("leaf", ("a",)))), leaf), (0,))
        self.assertEqual(run.go_on(), 4)
        # A later fork uses the same paths again.
        self.assertEqual(run.schedule, ((), (0,), (), (0,)))
        self.assertEqual(run.trail, (((), "f", 0), ((0,), "leaf", 0), ((), "f", 1), ((0,), "leaf", 0)))
        self.assertEqual((run.places, run.is_done()), ({"a": (2,)}, True))

    def test_forks_of_functions_without_rows(self):
        empty = function("empty")
        run = started((function("f", fork(("empty", ("a",)), ("empty", ("a",))), put(0, 1)), empty), (0,), careless=True)
        self.assertEqual(run.go(()), ((), "f", 0))
        self.assertEqual((run.active, run.waiting, run.row_at(())), (((),), (), ("f", 1)))
        run = started((function("f", fork(("empty", ("a",)))), empty), (0,))
        run.go(())
        self.assertTrue(run.is_done())
        leaf = function("leaf", put(0, 3))
        run = started((function("f", fork(("empty", ("a",)), ("leaf", ("a",)))), empty, leaf), (0,), careless=True)
        run.go(())
        self.assertEqual((run.active, run.waiting), (((1,),), ((),)))
        self.assertIsInstance(raised(run.row_at, (0,)), InvalidOperation)
        run.go((1,))
        self.assertTrue(run.is_done())

    def test_ends_of_several_at_once(self):
        """The end of a branch ends all that wait for it with their last rows."""
        deepest = function("deepest", put(0, 1))
        middle = function("middle", fork(("deepest", ("a",))))
        run = started((function("f", fork(("middle", ("a",)))), middle, deepest), (0,))
        self.assertEqual((run.go(()), run.go((0,)), run.waiting), (((), "f", 0), ((0,), "middle", 0), ((), (0,))))
        self.assertEqual((run.go((0, 0)), run.is_done()), (((0, 0), "deepest", 0), True))
        loop = function("loop", ("while", ("val", "==", ("a", "", 0, 0), ("", 0)), (fork(("deepest", ("a",))),)))
        run = started((loop, deepest), (0,))
        self.assertEqual(run.go_on(), 4)
        self.assertEqual(run.schedule, ((), (), (0,), ()))

    def test_functions_that_fork_themselves(self):
        again = fork(("f", ("a",), (("i", 1),)), ("f", ("a",), (("i", 2),)))
        told = function("f", ("if", ("pos", "<", ("i", 0), ("", 2)), (again,), ()), positions=("i",))
        run = started((told,), (0,), {"i": 0}, careless=True)
        self.assertEqual(run.go_on(), 7)
        self.assertEqual(run.schedule, ((), (), (0,), (0,), (0, 0), (0, 1), (1,)))
        self.assertTrue(run.is_done())

    def test_endless_recursion(self):
        for many in (1, 3):
            told = function("f", fork(*[("f", ("a",))] * many))
            run = started((told,), (0,), careless=True)
            self.assertEqual(run.go_on(most=1000), 1000)
            self.assertEqual(len(run.waiting), 1000)
            self.assertEqual(len(run.active), 1000 * (many - 1) + 1)
            self.assertEqual(len(run.undo(many=999)), 999)
            self.assertEqual(run.active, tuple([(k,) for k in range(many)]))

    def test_numbers_at_the_beginning(self):
        leaf = Function("leaf", arrays=(("look", "u", "l", ("", 0), ("l", 0)),), positions=("g", "h"), values=("y",),
                        places=("q",), numbers=("w",), rows=(("move", "q", ("l", 0)),))
        main = function("f", ("move", "p", ("i", 5)), ("keep", "v", ("x", 7)),
                        fork(("leaf", ("a",), (("p", 1), ("n", -1)), (("v", 1),)),
                             ("leaf", ("a",), (("", 4), ("i", 0)), (("a", "", 1, 3),))),
                        positions=("i",), values=("x",), places=("p",), numbers=("v",))
        run = started((main, leaf), (8, 9), {"i": 1}, {"x": 2})
        run.go_on(most=3)
        first, second = run.sight((0,)), run.sight((1,))
        self.assertEqual((first.positions, first.amounts, first.lengths), ({"g": 7, "h": 1, "q": 0}, {"y": 10, "w": 0}, {"l": 2}))
        self.assertEqual((second.positions, second.amounts), ({"g": 4, "h": 1, "q": 0}, {"y": 12, "w": 0}))
        self.assertEqual((first.frame == leaf.frame, first.rows), (True, {"u": (8, 9)}))

    def test_over_and_stuck(self):
        run = started((function("f", put(2, 1)),), (0, 0))
        self.assertEqual((run.active, run.waiting, run.stuck), ((), (), (((), "f", 0, ("outside", "a")),)))
        self.assertEqual((run.is_over(), run.is_done(), run.end), (True, False, None))
        self.assertEqual((str(run), run.go_on()), ("run of f: 0 steps, over", 0))
        self.assertIsInstance(raised(run.go, ()), InvalidOperation)
        self.assertEqual(run.row_at(()), ("f", 0))


class Sights(unittest.TestCase):
    """[4.3], [0.20]"""

    def test_sharing_and_viewing_side_by_side(self):
        """What one branch writes, the other one sees in places alone."""
        one = function("one", put(0, 5))
        two = function("two", ("keep", "v", ("a", "", 0, 0)), put(1, 0), numbers=("v",))
        main = function("f", fork(("one", ("a",)), ("two", ("a",))))
        for viewing, read in ((False, 5), (True, 1)):
            run = started((main, one, two), (1, 1), careless=True, viewing=viewing)
            run.go(()), run.go((0,)), run.go((1,))
            self.assertEqual(run.sight((1,)).amounts, {"v": read})
            self.assertEqual(run.sight((1,)).rows["a"], (1, 1))
            self.assertEqual(run.places, {"a": (1, 1) if viewing else (5, 1)})
            run.go((1,))
            # The second branch hands over all cells, as it sees them: its view has not the 5.
            self.assertEqual(run.end.rows["old"], (1, 1))
            self.assertEqual(run.places, {"a": (1, 0) if viewing else (5, 0)})

    def test_what_is_handed_over(self):
        leaf = Function("leaf", arrays=(("full", "u", "l", "uu", ("g", 0), ("h", 0)),), positions=("g", "h"),
                        rows=(("write", "u", "", 0, ("", 7)), ("write", "u", "", 1, ("", 8)), ("write", "u", "", 2, ("", 9))))
        main = function("f", fork(("leaf", ("a",), (("", -3), ("", 1))), ("leaf", ("a",), (("", 2), ("", 9)))), put(1, 0))
        run = started((main, leaf), (1, 1, 1, 1), careless=True)
        run.go_on(most=7)
        # In places all was written; seen are the cells of each right alone, as far as they are inside.
        self.assertEqual((run.sight(()).rows["a"], run.places["a"]), ((7, 1, 9, 1), (7, 8, 9, 1)))
        viewing = started((main, leaf), (1, 1, 1, 1), careless=True, viewing=True)
        viewing.go_on(most=7)
        self.assertEqual((viewing.sight(()).rows["a"], viewing.places["a"]), ((7, 1, 9, 1), (7, 1, 9, 1)))

    def test_branch_by_branch_and_argument_by_argument(self):
        leaf = Function("leaf", arrays=(("full", "u", "l", "uu", ("", 0), ("l", 0)), ("full", "w", "l", "ww", ("", 0), ("", 1))),
                        values=("y",), rows=(("write", "u", "", 0, ("y", 0)), ("write", "u", "", 1, ("y", 0)),
                                             ("write", "w", "", 0, ("y", 1))))
        main = function("f", fork(("leaf", ("a", "a"), (), (("", 4),)), ("leaf", ("a", "a"), (), (("", 6),))), put(2, 0))
        run = started((main, leaf), (0, 0, 0), careless=True)
        run.go(())
        for path in ((1,), (0,), (1,), (0,), (0,), (1,)):
            run.go(path)
        # The last branch, and in it the last argument, comes last.
        self.assertEqual(run.sight(()).rows["a"], (7, 6, 0))
        self.assertEqual(run.places["a"], (7, 4, 0))

    def test_look_rights_over_full_ones(self):
        """One array is a full and a look argument of one call: both are seen by themselves."""
        leaf = Function("leaf", arrays=(("full", "u", "l", "uu", ("", 0), ("", 1)), ("look", "w", "l", ("", 1), ("l", 0))),
                        numbers=("v",), rows=(("write", "u", "", 0, ("w", "", 1, 0)), ("keep", "v", ("w", "", 1, 0))))
        main = function("f", fork(("leaf", ("a", "a"))))
        run = started((main, leaf), (1, 5))
        run.go(()), run.go((0,))
        self.assertEqual(run.sight((0,)).rows, {"u": (5, 5), "w": (1, 5), "uu": (1, 5)})
        self.assertEqual(run.sight((0,)).frame.arrays, (("u", "l"), ("w", "l"), ("uu", "l")))
        run.go((0,))
        self.assertEqual(str(run.end), "a=5 5 old=1 5 | - | -")

    def test_was_names_in_forked_functions(self):
        leaf = function("leaf", put(1, 9))
        run = started((function("f", put(0, 3), fork(("leaf", ("a",)))), leaf), (1, 1))
        run.go_on(most=2)
        self.assertEqual((run.sight((0,)).rows, run.sight(()).rows), ({"a": (3, 1), "old": (3, 1)}, {"a": (3, 1), "old": (1, 1)}))
        run.go((0,))
        self.assertEqual(run.end.rows, {"a": (3, 9), "old": (1, 1)})

    def test_several_arrays_in_one_place(self):
        leaf = Function("leaf", arrays=(("look", "u", "l", ("", 0), ("l", 0)), ("look", "w", "k", ("", 0), ("k", 0))),
                        numbers=("v",), rows=(("if", ("val", "==", ("u", "", 0, 0), ("w", "", 0, 0)), (), ()),))
        run = started((function("f", fork(("leaf", ("a", "a")))), leaf), (4,))
        run.go(())
        self.assertEqual(run.touches((0,)), (("a", 0, "look"),))
        self.assertEqual(run.sight((0,)).lengths, {"k": 1, "l": 1})

    def test_the_end(self):
        run = started((COPY,), {"a": (1, 1, 1), "b": (5, 2, 9)}, {"s": 0, "t": 2}, {"x": 3})
        self.assertIsNone(run.end)
        self.assertEqual(run.go_on(), 13)
        self.assertEqual(str(run.end), "a=3 2 1 b=5 2 9 old=1 1 1 | s=0 t=2 | x=3")
        self.assertTrue(run.end.frame == COPY.end_frame)
        self.assertEqual(run.places, {"a": (3, 2, 1), "b": (5, 2, 9)})


class Faults(unittest.TestCase):
    """[4.4], [4.5]"""

    LOOK = ("look", "b", "m", ("", 1), ("m", -1))
    RIGHT = ("full", "a", "n", "old", ("", 1), ("n", -1))

    def told(self, row, **more):
        """The fault of a row and the cells that it touches; a and b have four cells each."""
        frame_rows = {"a": (1, 2, 3, 4), "b": (5, 6, 7, 8)}
        run = started((Function("f", arrays=(self.RIGHT, self.LOOK), positions=("i",), values=("x",), numbers=("v",),
                                rows=(row,), notes=((),) * (row[0] == "while")),
                       function("leaf", put(0, 1), values=("y",))), frame_rows, {"i": 2}, {"x": 0}, **more)
        fault = run.stuck[0][3] if run.stuck else None
        self.assertIs(fault is None, run.active == ((),))
        return fault, run.touches(())

    def test_values(self):
        self.assertEqual(self.told(("keep", "v", ("b", "i", 0, 0))), (None, (("b", 2, "look"),)))
        for position, fault in ((4, "outside"), (-1, "outside"), (0, "right"), (3, "right"), (10 ** 39, "outside")):
            row = ("keep", "v", ("b", "", position, 0))
            self.assertEqual(self.told(row), ((fault, "b"), ()))
            careless = (("outside", "b"), ()) if fault == "outside" else (None, (("b", position, "look"),))
            self.assertEqual(self.told(row, careless=True), careless)
        self.assertEqual(self.told(("keep", "v", ("x", 0))), (None, ()))

    def test_written_cells(self):
        self.assertEqual(self.told(("write", "a", "i", 0, ("x", 0))), (None, (("a", 2, "write"),)))
        self.assertEqual(self.told(("write", "a", "i", 0, ("b", "", 1, 0))), (None, (("a", 2, "write"), ("b", 1, "look"))))
        self.assertEqual(self.told(("write", "a", "i", 0, ("a", "", 2, 1))),
                         (None, (("a", 2, "look"), ("a", 2, "write"))))
        # The value is asked ahead of the cell that is written.
        self.assertEqual(self.told(("write", "a", "", 9, ("b", "", 0, 0))), (("right", "b"), ()))
        self.assertEqual(self.told(("write", "a", "", 9, ("b", "", 1, 0))), (("outside", "a"), (("b", 1, "look"),)))
        self.assertEqual(self.told(("write", "a", "", 3, ("b", "", 1, 0))), (("right", "a"), (("b", 1, "look"),)))
        self.assertEqual(self.told(("write", "a", "", 3, ("b", "", 0, 0)), careless=True),
                         (None, (("a", 3, "write"), ("b", 0, "look"))))

    def test_conditions(self):
        good, outside, forbidden = ("val", "<=", ("b", "", 1, 0), ("", 9)), ("val", "<", ("b", "", 9, 0), ("a", "", 1, 0)), (
            "val", "<", ("a", "", 1, 0), ("b", "", 3, 0))
        no = ("val", "<", ("a", "", 2, 0), ("", 0))
        for word in ("if", "while"):
            def told(condition, **more):
                return self.told((word, condition) + (((),) if word == "while" else ((), ())), **more)
            self.assertEqual(told(good), (None, (("b", 1, "look"),)))
            self.assertEqual(told(outside), (("outside", "b"), ()))
            self.assertEqual(told(forbidden), (("right", "b"), (("a", 1, "look"),)))
            self.assertEqual(told(("not", forbidden)), (("right", "b"), (("a", 1, "look"),)))
            self.assertEqual(told(forbidden, careless=True), (None, (("a", 1, "look"), ("b", 3, "look"))))
            # Parts of an and are asked as long as those ahead are true, parts of an or as long as they are false.
            self.assertEqual(told(("and", (good, outside))), (("outside", "b"), (("b", 1, "look"),)))
            self.assertEqual(told(("and", (no, outside))), (None, (("a", 2, "look"),)))
            self.assertEqual(told(("or", (good, outside))), (None, (("b", 1, "look"),)))
            self.assertEqual(told(("or", (no, forbidden, outside))), (("right", "b"), (("a", 1, "look"), ("a", 2, "look"))))
            self.assertEqual(told(("and", (("not", no), ("or", (good, outside)), no, outside))),
                             (None, (("a", 2, "look"), ("b", 1, "look"))))
            self.assertEqual(told(("or", (("pos", "<", ("i", 0), ("", 5)), outside))), (None, ()))
            self.assertEqual(told(("and", (NO, outside))), (None, ()))
            self.assertEqual(told(("or", (YES, outside))), (None, ()))
            self.assertEqual(told(("and", ())), (None, ()))

    def test_values_of_calls(self):
        def call(*term):
            return ("leaf", ("a",), (), term)
        good, outside, forbidden = ("b", "", 1, 0), ("b", "", 9, 0), ("a", "", 0, 0)
        self.assertEqual(self.told(("fork", (call(good), call(outside)))), (("outside", "b"), (("b", 1, "look"),)))
        self.assertEqual(self.told(("fork", (call(forbidden), call(outside)))), (("right", "a"), ()))
        self.assertEqual(self.told(("fork", (call(forbidden), call(outside))), careless=True),
                         (("outside", "b"), (("a", 0, "look"),)))
        # Rights come behind all cells, so those are touched.
        self.assertEqual(self.told(("fork", (call(good), call(("a", "", 1, 0))))),
                         (("within", 0, 0), (("a", 1, "look"), ("b", 1, "look"))))
        self.assertEqual(self.told(("fork", (call(good),) * 2), careless=True), (None, (("b", 1, "look"),)))

    def rights(self, arrays, *calls, **more):
        """The fault of a fork of functions with rights from g to h, by one or several arguments."""
        full = Function("full", arrays=(("full", "u", "l", "uu", ("g", 0), ("h", 0)),), positions=("g", "h"),
                        rows=(("move", "q", ("", 0)),), places=("q",))
        look = Function("look", arrays=(("look", "u", "l", ("g", 0), ("h", 0)),), positions=("g", "h"),
                        rows=(("move", "q", ("", 0)),), places=("q",))
        both = Function("both", arrays=(("look", "u", "l", ("g", 0), ("h", 0)), ("full", "w", "k", "ww", ("e", 0), ("f", 0))),
                        positions=("g", "h", "e", "f"), rows=(("move", "q", ("", 0)),), places=("q",))
        row = ("fork", tuple([(called, names, tuple([("", number) for number in numbers]), ())
                              for called, names, numbers in calls]))
        run = started((Function("f", arrays=arrays, rows=(row,)), full, look, both), (0,) * 4, **more)
        return run.stuck[0][3] if run.stuck else None

    def test_within(self):
        arrays = (("full", "a", "n", "old", ("", 1), ("n", -1)), ("look", "b", "n", ("", 0), ("n", 0)))
        def of(*numbers):
            return self.rights(arrays, ("full", ("a",), numbers))
        self.assertEqual([of(1, 3), of(2, 3), of(0, 3), of(1, 4), of(2, 2), of(9, 9), of(5, -5)],
                         [None, None, ("within", 0, 0), ("within", 0, 0), None, None, None])
        self.assertEqual(self.rights(arrays, ("full", ("a",), (1, 2)), ("look", ("b",), (0, 5))), ("within", 1, 0))
        self.assertEqual(self.rights(arrays, ("both", ("b", "a"), (0, 4, 2, 4))), ("within", 0, 1))
        self.assertIsNone(self.rights(arrays, ("both", ("b", "a"), (0, 4, 2, 4)), careless=True))

    def test_rights_beyond_the_array(self):
        """Integers alone count: what is outside of the array can lie within a right, and meet."""
        arrays = (("full", "a", "n", "old", ("", -3), ("n", 5)),)
        self.assertIsNone(self.rights(arrays, ("full", ("a",), (-3, 9))))
        self.assertEqual(self.rights(arrays, ("full", ("a",), (-3, 10))), ("within", 0, 0))
        self.assertEqual(self.rights(arrays, ("full", ("a",), (5, 7)), ("full", ("a",), (6, 8))), ("meet", 0, 0, 1, 0))
        self.assertIsNone(self.rights(arrays, ("full", ("a",), (5, 7)), ("full", ("a",), (7, 8))))

    def test_meet(self):
        arrays = (("full", "a", "n", "old", ("", 0), ("n", 0)), ("full", "b", "n", "bb", ("", 0), ("n", 0)))
        full, look = ("full", ("a",)), ("look", ("a",))
        self.assertEqual(self.rights(arrays, full + ((0, 2),), full + ((1, 3),)), ("meet", 0, 0, 1, 0))
        self.assertIsNone(self.rights(arrays, full + ((0, 2),), full + ((2, 3),)))
        self.assertIsNone(self.rights(arrays, full + ((0, 3),), full + ((1, 1),)))
        self.assertIsNone(self.rights(arrays, full + ((0, 3),), ("full", ("b",), (0, 3))))
        self.assertEqual(self.rights(arrays, look + ((0, 2),), full + ((1, 3),)), ("meet", 0, 0, 1, 0))
        self.assertIsNone(self.rights(arrays, look + ((0, 2),), look + ((1, 3),)))
        self.assertEqual(self.rights(arrays, look + ((0, 2),), look + ((1, 3),), full + ((2, 3),)), ("meet", 1, 0, 2, 0))
        # Several arguments of one call.
        self.assertEqual(self.rights(arrays, ("both", ("a", "a"), (0, 2, 1, 3))), ("meet", 0, 0, 0, 1))
        self.assertIsNone(self.rights(arrays, ("both", ("a", "b"), (0, 2, 1, 3))))
        self.assertEqual(self.rights(arrays, full + ((3, 4),), ("both", ("a", "a"), (0, 2, 2, 4))), ("meet", 0, 0, 1, 1))
        self.assertIsNone(self.rights(arrays, ("both", ("a", "a"), (0, 2, 1, 3)), careless=True))

    def test_the_first_one(self):
        arrays = (("full", "a", "n", "old", ("", 0), ("n", 0)), ("full", "b", "n", "bb", ("", 0), ("n", 0)))
        full = ("full", ("a",))
        # All arguments lie within ahead of those that meet.
        self.assertEqual(self.rights(arrays, full + ((0, 2),), full + ((1, 3),), full + ((3, 5),)), ("within", 2, 0))
        self.assertEqual(self.rights(arrays, full + ((0, 4),), full + ((3, 4),), full + ((0, 4),)), ("meet", 0, 0, 1, 0))
        self.assertEqual(self.rights(arrays, full + ((0, 2),), full + ((2, 4),), full + ((0, 4),)), ("meet", 0, 0, 2, 0))
        self.assertEqual(self.rights(arrays, full + ((2, 2),), full + ((2, 4),), full + ((0, 4),)), ("meet", 1, 0, 2, 0))

    def test_nothing_is_done(self):
        run = started((function("f", ("write", "a", "", 5, ("a", "", 0, 0))),), (1, 2))
        self.assertIsInstance(raised(run.go, ()), InvalidOperation)
        self.assertEqual((run.places, run.schedule, run.sight(()).rows["a"]), ({"a": (1, 2)}, (), (1, 2)))


class Orders(unittest.TestCase):
    """[4.6], [4.7], and the words of [4.1] to [4.5] against another run of them."""

    def compare(self, run, naive):
        self.assertEqual((list(run.active), list(run.waiting)), (naive.active(), naive.waiting()))
        self.assertEqual(list(run.stuck), naive.stuck())
        self.assertIs(run.is_done(), naive.last is not None)
        self.assertIs(run.is_over(), not naive.active())
        for path, doer in naive.doers.items():
            self.assertEqual(run.row_at(path), naive.at(path))
            sight = run.sight(path)
            self.assertEqual(sight.rows, {**{array: tuple(row) for array, row in doer.views.items()}, **doer.olds})
            self.assertEqual({**sight.positions, **sight.amounts, **sight.lengths}, doer.nums)
            for array in doer.views:
                self.assertEqual(run.right_at(path, array), doer.rights[array])
            if doer.branches is None:
                self.assertEqual(list(run.touches(path)), naive.touches(path))
        places = naive.places
        if naive.viewing:
            places = (naive.last or naive.doers[()]).views
        self.assertEqual(run.places, {array: tuple(row) for array, row in places.items()})

    def test_random_runs(self):
        ends = {"done": 0, "over": 0, "active": 0}
        for seed in range(350):
            maker = ProgramMaker(seed, [0.5, 0.9, 1][seed % 3])
            program = maker.program()
            situation = maker.beginning(program["main"])
            for viewing, careless in ((False, False), (True, False), (False, True), (True, True)):
                run = Run(program, "main", situation, viewing=viewing, careless=careless)
                naive = NaiveRun(program, "main", situation, viewing, careless)
                self.compare(run, naive)
                for _ in range(25):
                    if run.is_over():
                        break
                    path = maker.rng.choice(run.active)
                    run.go(path), naive.go(path)
                    self.compare(run, naive)
                ends["done" if run.is_done() else "over" if run.is_over() else "active"] += 1
                self.check_undo(run, maker.rng.randrange(len(run) + 1))
        self.assertGreater(min(ends.values()), 40)

    def check_undo(self, run, many):
        twin, paths = run.twin(), run.schedule
        self.assertEqual(run.undo(many=many), paths[::-1][:many])
        told = twin.twin()
        told.undo(many=len(told))
        for path in run.schedule:
            told.go(path)
        self.assertTrue(told == run)
        self.assertEqual((told.active, told.stuck, told.places, str(told), told.trail),
                         (run.active, run.stuck, run.places, str(run), run.trail))
        for path in paths[len(run):]:
            run.go(path)
        self.assertTrue(run == twin)
        self.assertEqual((run.stuck, run.places, run.trail, run.end == twin.end),
                         (twin.stuck, twin.places, twin.trail, True))

    def all_ends(self, run, most, found):
        """The ends of all orders, with the numbers of their steps, the rows of each path and what is seen."""
        if run.is_over():
            rows = {}
            for path, called, row in run.trail:
                rows.setdefault(path, []).append((called, row))
            seen = [(path, str(run.sight(path))) for path in run.waiting + tuple([one[0] for one in run.stuck])]
            found.append((len(run), rows, run.stuck, run.places, str(run.end), sorted(seen)))
        elif len(run) < most:
            for path in run.active:
                run.go(path)
                self.all_ends(run, most, found)
                run.undo()

    def test_all_orders_lead_to_the_same(self):
        several = 0
        for seed in range(160):
            maker = ProgramMaker(seed)
            program = maker.neat_program()
            situation = maker.beginning(program["main"], most=4)
            for viewing, careless in ((False, False), (True, False), (True, True)):
                run = Run(program, "main", situation, viewing=viewing, careless=careless)
                least = run.twin()
                if least.go_on(most=9) < 9:
                    found = []
                    self.all_ends(run, len(least), found)
                    several += len(found) > 1
                    for end in found:
                        self.assertEqual(end, found[0])
        self.assertGreater(several, 20)

    def test_sharing_and_viewing_are_alike(self):
        """Behind each step, if rights are asked; and a stuck function stays stuck."""
        steps = 0
        for seed in range(200):
            maker = ProgramMaker(seed)
            program = maker.neat_program()
            situation = maker.beginning(program["main"], most=4)
            sharing, viewing = [Run(program, "main", situation, viewing=one) for one in (False, True)]
            stuck = ()
            while not sharing.is_over() and len(sharing) < 20:
                path = maker.rng.choice(sharing.active)
                sharing.go(path), viewing.go(path)
                steps += 1
                self.assertEqual((sharing.active, sharing.waiting, sharing.stuck),
                                 (viewing.active, viewing.waiting, viewing.stuck))
                self.assertTrue(set(stuck) <= set(sharing.stuck))
                stuck = sharing.stuck
                for path in sharing.active + sharing.waiting + tuple([one[0] for one in stuck]):
                    sight = sharing.sight(path)
                    self.assertTrue(sight == viewing.sight(path))
                    self.check_places(sharing, path, sight)
        self.assertGreater(steps, 300)

    def check_places(self, run, path, sight):
        """Each cell in the right of a function that does not wait is the same in place and view."""
        if path in run.waiting:
            return
        for told in run.program[run.row_at(path)[0]].arrays:
            low, high = run.right_at(path, told[1])
            home = self.home(run, path, told[1])
            for k in range(len(run.places[home])):
                if low <= k < high:
                    self.assertEqual(sight.cell(told[1], k), run.places[home][k])

    def home(self, run, path, array):
        """The array of the first function for which an array stands."""
        for k in range(len(path), 0, -1):
            called, row = run.row_at(path[:k - 1])
            call = run.program[called].row(row)[1][path[k - 1]]
            names = [told[1] for told in run.program[call[0]].arrays]
            array = call[1][names.index(array)]
        return array

    def test_a_stuck_function_can_become_active_again(self):
        asks = function("asks", ("if", ("or", (("val", "==", ("a", "", 0, 0), ("", 1)), ("val", "<", ("a", "", 9, 0), ("", 0)))),
                                 (), ()))
        run = started((function("f", fork(("asks", ("a",)), ("puts", ("a",)))), asks, function("puts", put(0, 1))), (0,),
                      careless=True)
        run.go(())
        self.assertEqual((run.active, run.stuck), (((1,),), (((0,), "asks", 0, ("outside", "a")),)))
        run.go((1,))
        self.assertEqual((run.active, run.stuck), (((0,),), ()))
        run.go((0,))
        self.assertTrue(run.is_done())

    def test_one_order_is_over_while_another_one_never_is(self):
        waits = function("waits", ("while", ("val", "==", ("a", "", 0, 0), ("", 0)), ()))
        run = started((function("f", fork(("waits", ("a",)), ("puts", ("a",)))), waits, function("puts", put(0, 1))), (0,),
                      careless=True)
        run.go(())
        self.assertEqual(run.twin().go_on(most=1000), 1000)
        run.go((1,))
        self.assertEqual((run.go_on(), run.is_done()), (1, True))

    def test_without_a_race_the_ends_can_be_unlike(self):
        """By sharing all cells are written; a right that is too narrow hands over none of them."""
        leaf = Function("leaf", arrays=(("full", "u", "l", "uu", ("", 0), ("", 0)),), rows=(("write", "u", "", 0, ("", 7)),))
        main = function("f", fork(("leaf", ("a",))))
        ends = []
        for viewing in (False, True):
            run = started((main, leaf), (1,), careless=True, viewing=viewing)
            run.go_on()
            ends.append(run.end.rows["a"])
        self.assertEqual(ends, [(7,), (1,)])

    def test_what_is_seen_need_not_be_what_is_read(self):
        reads = function("reads", ("keep", "v", ("a", "", 0, 0)), put(1, 0), numbers=("v",))
        run = started((function("f", fork(("reads", ("a",)), ("puts", ("a",)))), reads, function("puts", put(0, 5))),
                      (1, 1), careless=True)
        run.go(()), run.go((1,)), run.go((0,))
        self.assertEqual((run.sight((0,)).amounts["v"], run.sight((0,)).cell("a", 0)), (5, 1))


class Methods(unittest.TestCase):
    def run_of_pair(self, **more):
        return Run(BOTH, "pair", ONES, **more)

    def test_errors_of_the_beginning(self):
        for value in odd_values() + [PAIR, (PAIR, SET)]:
            self.assertIsInstance(raised(Run, value, None, None, viewing=None), InvalidProgram)
            error = raised(Run, BOTH, value, None, viewing=None)
            self.assertIsInstance(error, UnknownName)
            self.assertIs(error.name, value)
            self.assertIsInstance(raised(Run, BOTH, "pair", value, viewing=None), InvalidSituation)
            if not isinstance(value, bool):
                self.assertIsInstance(raised(Run, BOTH, "pair", ONES, viewing=value), InvalidOperation)
                self.assertIsInstance(raised(Run, BOTH, "pair", ONES, careless=value), InvalidOperation)
        self.assertIsInstance(raised(Run, BOTH, "set", ONES), InvalidSituation)
        self.assertIsInstance(raised(Run, BOTH, "pair", NOUGHTS), InvalidSituation)
        ended = self.run_of_pair()
        ended.go_on()
        self.assertIsInstance(raised(Run, BOTH, "pair", ended.end), InvalidSituation)
        self.assertIsNone(raised(Run, BOTH, "pair", ended.end.for_frame(PAIR.start_frame)))

    def test_paths(self):
        run = self.run_of_pair()
        run.go(())
        wrong = odd_values() + [(2,), (0, 0), [0], (0.0,), (True,), (False,), ("0",), (None,), ((0,),), 0, "0"]
        for value in wrong:
            # These are two paths of the run, one of which waits.
            if value not in ((), (1,)) or value == (True,) and value[0] is True:
                for call in (run.go, run.row_at, run.sight, run.touches, lambda path: run.right_at(path, None)):
                    self.assertIsInstance(raised(call, value), InvalidOperation)
        # The first function waits: it does no step, and touches nothing.
        self.assertIsInstance(raised(run.go, ()), InvalidOperation)
        self.assertIsInstance(raised(run.touches, ()), InvalidOperation)
        self.assertEqual((run.row_at(()), run.sight(()).rows["a"]), (("pair", 0), (1, 1, 1)))
        run.go((0,))
        for call in (run.go, run.row_at, run.sight, run.touches, lambda path: run.right_at(path, "p")):
            self.assertIsInstance(raised(call, (0,)), InvalidOperation)
        run.go((1,))
        for call in (run.go, run.row_at, run.sight, run.touches, lambda path: run.right_at(path, "a")):
            self.assertIsInstance(raised(call, ()), InvalidOperation)

    def test_rights(self):
        run = self.run_of_pair()
        self.assertEqual(run.right_at((), "a"), (0, 3))
        for value in odd_values() + ["aa", "n", "i", "p", ("a",), ["a"]]:
            error = raised(run.right_at, (), value)
            self.assertIsInstance(error, UnknownName)
            self.assertIs(error.name, value)
        shifted = started((Function("f", arrays=(("look", "b", "n", ("i", -2), ("n", 5)),), positions=("i",),
                                    rows=(("if", YES, (), ()),)),), (1, 2), {"i": SIXTY})
        self.assertEqual(shifted.right_at((), "b"), (SIXTY - 2, 7))

    def test_go_on(self):
        run = started((function("f", ("while", YES, ())),), (0,))
        self.assertEqual([run.go_on(most=0), run.go_on(), run.go_on(most=1000), len(run)], [0, 100, 1000, 1100])
        for value in odd_values() + [1001, -1, True, False, None, "5", (5,)]:
            if not isinstance(value, int) or isinstance(value, bool) or not 0 <= value <= 1000:
                error = raised(run.go_on, most=value)
                self.assertIsInstance(error, InvalidNumber)
                self.assertIs(error.number, value)
        self.assertEqual(len(run), 1100)
        pair = self.run_of_pair()
        self.assertEqual([pair.go_on(most=2), pair.schedule, pair.go_on(most=9), pair.go_on()], [2, ((), (0,)), 1, 0])

    def test_undo(self):
        run = self.run_of_pair()
        self.assertEqual(run.undo(many=0), ())
        error = raised(run.undo)
        self.assertIsInstance(error, NothingToUndo)
        self.assertEqual(error.asked, 1)
        run.go_on()
        self.assertTrue(run.is_done())
        self.assertEqual((run.undo(), run.is_done(), run.end, run.active), (((1,),), False, None, ((1,),)))
        self.assertEqual((run.places, run.sight(()).rows["a"]), ({"a": (1, 1, 1)}, (1, 1, 1)))
        self.assertEqual((run.undo(many=2), run.active, run.waiting, len(run)), (((0,), ()), ((),), (), 0))
        for value in (-1, True, None, "1", 10 ** 60, (1,)):
            error = raised(run.undo, many=value)
            self.assertIsInstance(error, InvalidNumber)
            self.assertEqual(error.number, value)
        run.go(())
        self.assertEqual(raised(run.undo, many=2).asked, 2)
        self.assertEqual(run.schedule, ((),))

    def test_twin(self):
        run = self.run_of_pair()
        run.go(())
        twin = run.twin()
        self.assertTrue(twin == run)
        twin.go((1,))
        self.assertEqual((run.schedule, run.active, run.places), (((),), ((0,), (1,)), {"a": (1, 1, 1)}))
        self.assertFalse(twin == run)
        self.assertEqual(twin.undo(many=2), ((1,), ()))
        run.go((0,))
        self.assertEqual((run.go((1,)), run.is_done(), len(twin)), (((1,), "set", 0), True, 0))

    def test_equality(self):
        run = self.run_of_pair()
        self.assertTrue(run == self.run_of_pair())
        for other in (self.run_of_pair(viewing=True), self.run_of_pair(careless=True), Run(BOTH, "pair", ONES.with_cell("a", 0, 2)),
                      Run(BOTH.with_function(Function("z")), "pair", ONES)):
            self.assertFalse(run == other)
            self.assertTrue(run != other)
        run.go(())
        other = self.run_of_pair()
        self.assertFalse(run == other)
        other.go(())
        self.assertTrue(run == other)
        run.go((0,)), run.go((1,)), other.go((1,)), other.go((0,))
        # The order of the steps counts, though the end is the same.
        self.assertFalse(run == other)
        self.assertTrue(run.end == other.end)
        for value in odd_values() + [BOTH]:
            self.assertFalse(run == value)

    def test_properties(self):
        run = self.run_of_pair()
        run.go(()), run.go((1,))
        self.assertTrue(run.program == BOTH)
        self.assertEqual((run.schedule, run.trail), (((), (1,)), (((), "pair", 0), ((1,), "set", 0))))
        self.assertEqual((len(run), run.waiting, run.stuck), (2, ((),), ()))
        self.assertRaises(TypeError, iter, run)

    def test_returned_dicts_are_not_shared(self):
        run = self.run_of_pair()
        run.places.clear()
        run.places["a"] = 1
        run.sight(()).rows.clear()
        self.assertEqual(run.places, {"a": (1, 1, 1)})
        run.go_on()
        run.end.rows.clear(), run.end.positions.clear()
        self.assertEqual(str(run.end), "a=1 2 1 aa=1 1 1 | i=0 | -")

    def test_keys_ascend(self):
        told = Function("f", arrays=(("look", "b", "n", ("", 0), ("n", 0)), ("look", "a", "n", ("", 0), ("n", 0))))
        for viewing in (False, True):
            run = started((told,), {"b": (1,), "a": (2,)}, viewing=viewing)
            self.assertEqual(list(run.places), ["a", "b"])
            self.assertEqual(str(run.end), "b=1 a=2 | - | -")

    def test_numbers_grow(self):
        grows = function("f", ("while", YES, (("keep", "v", ("v", 10 ** 40 - 1)), ("move", "p", ("p", -10 ** 40 + 1)),
                                              ("write", "a", "", 0, ("a", "", 0, 10 ** 40 - 1)))),
                         places=("p",), numbers=("v",))
        run = started((grows,), (SIXTY,))
        run.go_on(most=1000)
        shown = run.sight(())
        self.assertEqual((shown.amounts["v"], shown.positions["p"], shown.rows["a"]),
                         (250 * (10 ** 40 - 1), -250 * (10 ** 40 - 1), (SIXTY + 250 * (10 ** 40 - 1),)))
        far = started((function("f", ("while", YES, (("move", "p", ("p", 10 ** 40 - 1)),)), places=("p",)),), (0,))
        self.assertEqual(far.go_on(), 100)
        # A right beyond sixty digits, as a fork hands it over.
        leaf = Function("leaf", arrays=(("full", "u", "l", "uu", ("g", 10 ** 40 - 1), ("g", -1)),), positions=("g",),
                        rows=(("move", "q", ("g", 10 ** 40 - 1)),), places=("q",))
        run = started((Function("f", arrays=(WHOLE,), positions=("i",), rows=(fork(("leaf", ("a",), (("i", 10 ** 40 - 1),))),)),
                       leaf), (0,), {"i": SIXTY})
        self.assertEqual((run.go(()), run.right_at((0,), "u")),
                         (((), "f", 0), (SIXTY + 2 * (10 ** 40 - 1), SIXTY + 10 ** 40 - 2)))
        run.go((0,))
        self.assertTrue(run.is_done())

    def test_arguments_stay(self):
        text = (str(ONES), str(BOTH), PAIR.rows)
        run = self.run_of_pair()
        run.go_on()
        self.assertEqual((str(ONES), str(BOTH), PAIR.rows), text)
        self.assertEqual(str(ONECELL), "program of 2 functions, 2 rows")


if __name__ == "__main__":
    unittest.main()

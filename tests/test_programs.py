"""Part 3c: programs, and calls that fit."""

import unittest

import forkcells.code.programs as programs
from forkcells.code.functions import Function
from forkcells.code.programs import Program
from forkcells.code.rights import apart_claim, do_meet, is_within
from forkcells.errors import InvalidFunction, InvalidNumber, InvalidOperation, InvalidProgram, UnknownName
from code_samples import BOTH, COPY, PAIR, SET
from samples import odd_values, raised


def caller(*calls, **more):
    told = {"arrays": (("full", "a", "n", "aa", ("", 0), ("n", 0)), ("full", "b", "m", "bb", ("", 0), ("m", 0)),
                       ("look", "c", "n", ("i", 0), ("n", 0))), "positions": ("i",), "values": ("x",), "places": ("p",)}
    return Function("main", rows=(("fork", calls),), **{**told, **more})


def callee(*arrays, positions=(), values=()):
    return Function("leaf", arrays=arrays, positions=positions, values=values)


FULL = ("full", "u", "l", "uu", ("g", 0), ("l", -1))
LOOK = ("look", "w", "k", ("", 1), ("g", 2))
SAME = ("look", "s", "l", ("l", -2), ("l", 0))


class Examples(unittest.TestCase):
    def test_document(self):
        self.assertEqual([str(PAIR), str(BOTH), BOTH.names, PAIR.callees, PAIR.end_frame.arrays, SET.right_of("p"),
                          BOTH.callers("set")],
                         ["pair: 1 rows, 0 loops", "program of 2 functions, 2 rows", ("pair", "set"), ("set",),
                          (("a", "n"), ("aa", "n")), (("g", 0), ("g", 1)), ("pair",)])
        self.assertEqual([BOTH.right_of_argument("pair", 0, 1, 0),
                          apart_claim((("", 0), ("", 1)), (("i", 1), ("i", 2)))[1][0], is_within((3, 3), (0, 1)),
                          do_meet((0, 2), (1, 5)), do_meet((0, 2), (1, 1))],
                         [(("i", 1), ("i", 2)), ("pos", "<=", ("", 1), ("i", 1)), True, True, False])


class Making(unittest.TestCase):
    def test_how_many(self):
        self.assertEqual(programs.MAX_FUNCTIONS, 6)
        leaves = [Function(called) for called in ("f", "b", "d", "a", "e", "c", "g")]
        self.assertEqual(Program((leaves[0],)).names, ("f",))
        whole = Program(tuple(leaves[:6]))
        self.assertEqual(whole.names, ("a", "b", "c", "d", "e", "f"))
        self.assertEqual([function.called for function in whole.functions], list(whole.names))
        self.assertTrue(whole == Program(tuple(leaves[:6][::-1])))
        self.assertIsInstance(raised(Program, ()), InvalidProgram)
        self.assertIsInstance(raised(Program, tuple(leaves)), InvalidProgram)
        self.assertIsInstance(raised(Program, (leaves[0], leaves[0])), InvalidProgram)
        self.assertIsInstance(raised(Program, (leaves[0], Function("f", positions=("i",)))), InvalidProgram)

    def test_wrong_kinds(self):
        for value in odd_values() + [SET, [SET], {"set": SET}, BOTH]:
            self.assertIsInstance(raised(Program, value), InvalidProgram)
            self.assertIsInstance(raised(Program, (SET, value) if value is not SET else (SET, SET)), InvalidProgram)

    def fits(self, call, *arrays, **more):
        error = raised(Program, (caller(call), callee(*arrays, **more)))
        self.assertTrue(error is None or isinstance(error, InvalidProgram))
        return error is None

    def test_calls(self):
        self.assertTrue(self.fits(("leaf", (), (), ())))
        self.assertFalse(self.fits(("none", (), (), ())))
        self.assertTrue(self.fits(("main", ("a", "b", "c"), (("i", 0),), (("x", 0),))))
        self.assertFalse(self.fits(("main", ("a", "b"), (("i", 0),), (("x", 0),))))

    def test_numbers_of_arguments(self):
        more = {"positions": ("g", "h"), "values": ("y",)}
        good = ("leaf", ("a", "c"), (("i", 0), ("p", 1)), (("x", 0),))
        self.assertTrue(self.fits(good, FULL, LOOK, **more))
        for k in (1, 2, 3):
            for wrong in (good[k][1:], good[k] + good[k][:1]):
                self.assertFalse(self.fits(good[:k] + (wrong,) + good[k + 1:], FULL, LOOK, **more))

    def test_full_and_look(self):
        more = {"positions": ("g",)}
        for array, full, look in (("a", True, True), ("b", True, True), ("c", False, True)):
            self.assertIs(self.fits(("leaf", (array,), (("i", 0),), ()), FULL, **more), full)
            self.assertIs(self.fits(("leaf", (array,), (("i", 0),), ()), LOOK, **more), look)

    def test_lengths(self):
        more = {"positions": ("g",)}
        for arrays, alike in ((("a", "a"), True), (("a", "c"), True), (("a", "b"), False), (("b", "c"), False),
                              (("b", "b"), True)):
            call = ("leaf", arrays, (("i", 0),), ())
            self.assertIs(self.fits(call, FULL, SAME, **more), alike)
            self.assertTrue(self.fits(call, FULL, LOOK, **more))

    def test_calls_in_rows(self):
        wrong = ("fork", (("leaf", ("a",), (), ()),))
        for rows in ((("if", ("and", ()), (wrong,), ()),), (("if", ("and", ()), (), (wrong,)),),
                     (("while", ("and", ()), (wrong,)),), (("fork", (("leaf", (), (), ()), wrong[1][0])),)):
            function = caller(("leaf", (), (), ())).with_rows(rows, ((),) * str(rows).count("while"))
            self.assertIsInstance(raised(Program, (function, Function("leaf"))), InvalidProgram)

    def test_recursion(self):
        one = Function("one", rows=(("fork", (("two", (), (), ()),)),))
        two = Function("two", rows=(("fork", (("one", (), (), ()), ("two", (), (), ()))),))
        whole = Program((two, one, Function("out")))
        self.assertEqual([whole.callers("one"), whole.callers("two"), whole.callers("out")],
                         [("two",), ("one", "two"), ()])
        self.assertEqual([whole.needed("one"), whole.needed("two"), whole.needed("out")],
                         [("one", "two"), ("one", "two"), ("out",)])
        self.assertIsInstance(raised(Program, (one,)), InvalidProgram)

    def test_needed(self):
        def forks(called, *names):
            return Function(called, rows=(("fork", tuple([(name, (), (), ()) for name in names])),))
        whole = Program((forks("a", "b", "c"), forks("b", "d"), forks("c", "c"), Function("d"), forks("e", "a")))
        self.assertEqual([whole.needed(called) for called in whole.names],
                         [("a", "b", "c", "d"), ("b", "d"), ("c",), ("d",), ("a", "b", "c", "d", "e")])
        self.assertEqual([whole.callers(called) for called in whole.names],
                         [("e",), ("a",), ("a", "c"), ("b",), ()])


class Looking(unittest.TestCase):
    def test_items(self):
        self.assertTrue(BOTH["set"] == SET)
        self.assertTrue(BOTH["pair"] == PAIR)
        self.assertEqual(len(BOTH), 2)
        self.assertEqual([function.called for function in BOTH], ["pair", "set"])
        self.assertTrue(all([one == other for one, other in zip(BOTH, BOTH.functions)]))
        self.assertIn("set", BOTH)
        for value in odd_values() + [SET, "n", "a", ("set",), ["set"], 0, 1]:
            self.assertNotIn(value, BOTH)
            for call in (BOTH.__getitem__, BOTH.callers, BOTH.needed, BOTH.without):
                error = raised(call, value)
                self.assertIsInstance(error, UnknownName)
                self.assertIs(error.name, value)

    def test_equality(self):
        self.assertTrue(BOTH == Program((SET, PAIR)))
        self.assertFalse(BOTH == Program((SET,)))
        self.assertTrue(BOTH != Program((SET, PAIR.with_contract((("and", ()),), ()))))
        for value in odd_values() + [SET, (PAIR, SET)]:
            self.assertFalse(BOTH == value)

    def test_texts(self):
        self.assertEqual(str(Program((COPY,))), "program of 1 functions, 8 rows")

    def test_rights_of_arguments(self):
        leaf = callee(FULL, SAME, LOOK, positions=("g",))
        told = caller(("leaf", ("a", "c", "b"), (("p", 2),), ()), ("leaf", ("b", "b", "a"), (("n", -1),), ()),
                      ("leaf", ("a", "a", "a"), (("", 5),), ()))
        whole = Program((told, leaf))
        self.assertEqual([whole.right_of_argument("main", 0, 0, k) for k in range(3)],
                         [(("p", 2), ("n", -1)), (("n", -2), ("n", 0)), (("", 1), ("p", 4))])
        self.assertEqual([whole.right_of_argument("main", 0, 1, k) for k in range(3)],
                         [(("n", -1), ("m", -1)), (("m", -2), ("m", 0)), (("", 1), ("n", 1))])
        self.assertEqual([whole.right_of_argument("main", 0, 2, k) for k in range(3)],
                         [(("", 5), ("n", -1)), (("n", -2), ("n", 0)), (("", 1), ("", 7))])

    def test_names_of_both_functions(self):
        """Positions and lengths of one function have the names of others in the other one."""
        leaf = Function("leaf", arrays=(("look", "i", "p", ("n", 1), ("p", 1)),), positions=("n",))
        told = Function("main", arrays=(("look", "p", "i", ("", 0), ("i", 0)),), positions=("n",),
                        rows=(("fork", (("leaf", ("p",), (("i", 3),), ()),)),))
        self.assertEqual(Program((leaf, told)).right_of_argument("main", 0, 0, 0), (("i", 4), ("i", 1)))

    def test_errors_of_rights_of_arguments(self):
        leaf = callee(FULL, positions=("g",))
        fork = ("fork", (("leaf", ("a",), (("i", 0),), ()), ("main", ("a", "b", "c"), (("i", 0),), (("x", 0),))))
        whole = Program((leaf, caller(fork[1][0]).with_rows((("move", "p", ("i", 0)), ("if", ("and", ()), (fork,), ())), ())))
        self.assertEqual(whole.right_of_argument("main", 2, 1, 2), (("i", 0), ("n", 0)))
        for value in odd_values():
            self.assertIsInstance(raised(whole.right_of_argument, value, None, None, None), UnknownName)
        for told, wrong in ((("main", 0, None, None), 0), (("main", 1, None, None), 1), (("main", 3, None, None), 3),
                            (("main", -1, 0, 0), -1), (("main", True, 0, 0), True), (("main", None, 0, 0), None),
                            (("main", 2, 2, None), 2), (("main", 2, -1, None), -1), (("main", 2, True, 0), True),
                            (("main", 2, [0], 0), [0]), (("main", 2, 0, 1), 1), (("main", 2, 1, 3), 3),
                            (("main", 2, 1, False), False), (("main", 2, 1, "0"), "0"), (("leaf", 0, 0, 0), 0)):
            error = raised(whole.right_of_argument, *told)
            self.assertIsInstance(error, InvalidNumber, told)
            self.assertIs(error.number if not isinstance(wrong, list) else wrong, wrong)


class Changing(unittest.TestCase):
    def test_with_function(self):
        other = SET.with_contract((("and", ()),), ())
        told = BOTH.with_function(other)
        self.assertTrue(told == Program((other, PAIR)))
        self.assertEqual(BOTH.with_function(Function("a")).names, ("a", "pair", "set"))
        self.assertTrue(BOTH.with_function(SET) == BOTH)
        for value in odd_values() + [(SET,), BOTH]:
            self.assertIsInstance(raised(BOTH.with_function, value), InvalidFunction)
        # With another heading the calls do not fit.
        self.assertIsInstance(raised(BOTH.with_function, Function("set")), InvalidProgram)
        self.assertIsInstance(raised(BOTH.with_function, PAIR.called_as("other").with_rows(
            (("fork", (("none", (), (), ()),)),), ())), InvalidProgram)
        six = Program(tuple([Function(called) for called in "abcdef"]))
        self.assertIsInstance(raised(six.with_function, Function("g")), InvalidProgram)
        self.assertEqual(len(six.with_function(Function("a", positions=("i",)))), 6)

    def test_without(self):
        self.assertTrue(BOTH.without("pair") == Program((SET,)))
        self.assertIsInstance(raised(BOTH.without, "set"), InvalidProgram)
        self.assertIsInstance(raised(Program((SET,)).without, "set"), InvalidProgram)
        loop = Function("loop", rows=(("fork", (("loop", (), (), ()),)),))
        self.assertEqual(Program((loop, SET)).without("loop").names, ("set",))

    def test_renamed(self):
        told = BOTH.renamed({"set": "put"})
        self.assertEqual((told.names, told.callers("put"), told["put"].rows), (("pair", "put"), ("pair",), SET.rows))
        self.assertEqual([call[0] for call in told["pair"].row(0)[1]], ["put", "put"])
        swapped = BOTH.renamed({"set": "pair", "pair": "set"})
        self.assertEqual((swapped.names, swapped["set"].callees), (("pair", "set"), ("pair",)))
        self.assertTrue(swapped.renamed({"set": "pair", "pair": "set"}) == BOTH)
        self.assertTrue(BOTH.renamed({}) == BOTH)
        # Names of functions stand apart from all others.
        self.assertEqual(BOTH.renamed({"set": "a"})["pair"].arrays, PAIR.arrays)
        fork = ("fork", (("loop", (), (), ()),))
        loop = Function("loop", rows=(("while", ("and", ()), (("if", ("or", ()), (fork,), (fork,)),)),), notes=((),))
        self.assertEqual(Program((loop,)).renamed({"loop": "ring"})["ring"].callees, ("ring",))
        for names in ({"set": "pair"}, {"set": "x", "pair": "x"}, {"none": "x"}, {"set": "X"}, {"set": None}, {1: "x"},
                      {"set": ["x"]}, None, (), [("set", "x")], "set"):
            self.assertIsInstance(raised(BOTH.renamed, names), InvalidOperation)
        for value in odd_values():
            if value != {}:
                self.assertIsInstance(raised(BOTH.renamed, value), InvalidOperation)

    def test_programs_do_not_change(self):
        functions = (PAIR, SET)
        told = Program(functions)
        told.renamed({"set": "x"}), told.without("pair"), told.with_function(Function("a"))
        self.assertEqual((str(told), told.names), ("program of 2 functions, 2 rows", ("pair", "set")))
        self.assertTrue(told == BOTH)


if __name__ == "__main__":
    unittest.main()

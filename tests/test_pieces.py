"""Parts 6 and 6a: pieces, their facts and their questions."""

import unittest

import forkcells.pieces.pieces as module
from forkcells.code.functions import Function
from forkcells.code.programs import Program
from forkcells.code.rights import usable_claim
from forkcells.errors import InvalidOperation, InvalidProgram, TooMany, UnknownName
from forkcells.logic.claims import is_claim
from forkcells.pieces.pieces import Piece, pieces
from forkcells.text.texts import read_claim, read_functions, write_claim
from claim_makers import claimed_program
from code_samples import BOTH, COPY, FILL, HALVES, ONES, TWO
from makers import ProgramMaker
from naive_pieces import Tracker, walks
from samples import odd_values, raised
from test_runs import NO, YES, fork, function, put

SKIP = ("if", YES, (), ())


def program(text):
    """A program by the text of its functions."""
    return Program(read_functions(text))


def facts(piece):
    """The texts of its facts behind the claims with which it begins."""
    return [write_claim(fact) for fact in piece.facts[len(piece.claims):]]


def asked(piece):
    """The texts of its questions: kind, what is given behind the first claims, and what is wanted."""
    return [(kind, [write_claim(claim) for claim in question.claims[len(piece.claims):]], write_claim(question.goal))
            for kind, question in piece.questions()]


def told(*functions):
    return [str(piece) for piece in pieces(Program(functions), functions[0].called)]


def trails(made):
    return [(piece.start, piece.answers, piece.stop, piece.trail) for piece in made]


class Examples(unittest.TestCase):
    def test_document(self):
        self.assertEqual((module.MAX_PIECES, module.MAX_WRITES, module.MAX_FORKS), (64, 4, 2))
        self.assertEqual([str(piece) for piece in pieces(TWO, "fill")], [
            "piece of fill from start to 0: 1 rows", "piece of fill from 0 to end: 1 rows",
            "piece of fill from 0 to 0: 3 rows"])
        made = pieces(TWO, "halves")
        self.assertEqual([str(piece) for piece in made], ["piece of halves from start to end: 1 rows"])
        self.assertEqual(made[0].frame.arrays, (("b", "m"), ("wa", "m"), ("wb", "m"), ("wc", "m")))
        self.assertEqual(made[0].names, {"b": "wc"})
        self.assertEqual([kind for kind, question in made[0].questions()], [
            ("within", 0, 0, 0), ("within", 0, 1, 0), ("apart", 0, 0, 0, 1, 0), ("before", 0, 0, 0), ("before", 0, 0, 1),
            ("before", 0, 1, 0), ("before", 0, 1, 1), ("after", 0)])
        self.assertIs(made[0].is_right(), True)


class Ways(unittest.TestCase):
    """[6.1]"""

    def test_no_rows(self):
        self.assertEqual(told(Function("f")), ["piece of f from start to end: 0 rows"])
        self.assertEqual(trails(pieces(Program((Function("f"),)), "f")), [(-1, (), -1, ())])

    def test_no_loops(self):
        f = function("f", put(0, 1), ("if", YES, (put(0, 2),), (put(0, 3), put(0, 4))), put(0, 5))
        self.assertEqual(trails(pieces(Program((f,)), "f")), [
            (-1, (False,), -1, (0, 1, 3, 4, 5)), (-1, (True,), -1, (0, 1, 2, 5))])

    def test_empty_branches(self):
        f = function("f", ("if", YES, (), (put(0, 1),)), ("if", NO, (put(0, 2),), ()), SKIP)
        self.assertEqual([(piece.answers, piece.trail) for piece in pieces(Program((f,)), "f")], [
            ((False, False, False), (0, 1, 2, 4)), ((False, False, True), (0, 1, 2, 4)),
            ((False, True, False), (0, 1, 2, 3, 4)), ((False, True, True), (0, 1, 2, 3, 4)),
            ((True, False, False), (0, 2, 4)), ((True, False, True), (0, 2, 4)), ((True, True, False), (0, 2, 3, 4)),
            ((True, True, True), (0, 2, 3, 4))])

    def test_a_loop_alone(self):
        f = function("f", ("while", YES, ()))
        self.assertEqual(trails(pieces(Program((f,)), "f")), [(-1, (), 0, ()), (0, (False,), -1, (0,)), (0, (True,), 0, (0,))])
        self.assertEqual(told(f)[0], "piece of f from start to 0: 0 rows")

    def test_loops_in_loops(self):
        """One at the end of another one, which is asked again behind it."""
        f = function("f", put(0, 1), ("while", YES, (put(0, 2), ("while", YES, (put(0, 3),)))), ("while", YES, ()))
        self.assertEqual(trails(pieces(Program((f,)), "f")), [
            (-1, (), 0, (0,)), (0, (False,), 2, (1,)), (0, (True,), 1, (1, 2)), (1, (False,), 0, (3,)),
            (1, (True,), 1, (3, 4)), (2, (False,), -1, (5,)), (2, (True,), 2, (5,))])

    def test_ifs_ahead_of_behind_and_in_loops(self):
        f = function("f", SKIP, ("while", YES, (("if", YES, (("while", NO, ()),), (put(0, 1),)),)), SKIP)
        self.assertEqual(trails(pieces(Program((f,)), "f")), [
            (-1, (False,), 0, (0,)), (-1, (True,), 0, (0,)), (0, (False, False), -1, (1, 5)), (0, (False, True), -1, (1, 5)),
            (0, (True, False), 0, (1, 2, 4)), (0, (True, True), 1, (1, 2)), (1, (False,), 0, (3,)), (1, (True,), 1, (3,))])

    def test_forks_are_one_row(self):
        f = function("f", fork(("g", ("a",)), ("g", ("a",))), put(0, 1))
        self.assertEqual(trails(pieces(Program((f, function("g", put(0, 2), SKIP))), "f")), [(-1, (), -1, (0, 1))])

    def test_plain_walks(self):
        many = 0
        for seed in range(200):
            code = ProgramMaker(seed).program()
            for one in code:
                expected = walks(one)
                error = raised(pieces, code, one.called)
                if error is None:
                    self.assertEqual(trails(pieces(code, one.called)), expected)
                    many += len(expected)
        self.assertGreater(many, 500)


class Frames(unittest.TestCase):
    """[6.2], [6.3]"""

    def frame(self, text, place=0):
        code = program(text)
        return pieces(code, code.functions[0].called)[place]

    def test_names_that_are_taken(self):
        start = "f(full a:n was %s from 0 to n | %s | -) with (- | -) before (-) after (%s) notes () { a[0] = 1; a[1] = 2 }"
        for was, place, claim, expected in (
                ("old", "-", "-", ("wa", "wb")), ("wa", "-", "-", ("wb", "wc")), ("wb", "wa", "-", ("wc", "wd")),
                ("old", "wb", "-", ("wa", "wc")), ("old", "-", "all wa (and() -> a[wa] == 1)", ("wb", "wc")),
                ("old", "-", "or(all k, wb ([k <= wb] -> a[k] == 1))", ("wa", "wc"))):
            piece = self.frame(start % (was, place, claim))
            self.assertEqual(piece.frame.arrays[1:], ((expected[0], "n"), (expected[1], "n")))
            self.assertEqual(piece.names, {"a": expected[1]})

    def test_own_names_of_notes_and_of_other_functions(self):
        text = ("f(full a:n was old from 0 to n | - | -) with (- | -) before (all wc (and() -> a[wc] == 1)) after (-) "
                "notes (all wa (and() -> a[wa] == 1)) { while [0 < 0] { a[0] = 1; fork g(a | - | -) } }\n"
                "g(full b:m was wd from 0 to m | - | -) with (- | -) before (-) after (all we (and() -> b[we] == 1)) notes () { }")
        piece = self.frame(text, 2)
        self.assertEqual([array for array, _ in piece.frame.arrays], ["a", "old", "wb", "wd", "we"])
        # The own name of the other function is a version here, so another one is in its place.
        self.assertEqual(write_claim(piece.facts[5]), "all k (and() -> wd[k] == 1)")

    def test_was_names_and_locals(self):
        piece = self.frame("f(full a:n was o from 0 to n, look b:m from 0 to m | i | x) with (p | v) before (-) "
                           "after (o[0] == a[0]) notes (o[1] == v & [p <= i]) { while [0 <= 0] { } }")
        self.assertEqual((piece.frame.arrays, piece.frame.positions, piece.frame.amounts),
                         ((("a", "n"), ("b", "m")), ("i", "p"), ("x", "v")))
        # At the beginning locals are 0, and a was name is its array.
        self.assertEqual([goal for _, _, goal in asked(piece)], ["a[1] == 0", "[0 <= i]"])
        piece = self.frame("f(full a:n was o from 0 to n, look b:m from 0 to m | i | x) with (p | v) before (-) "
                           "after (o[0] == a[0]) notes (o[1] == v & [p <= i]) { while [0 <= 0] { } }", 1)
        self.assertEqual(piece.frame.arrays, (("a", "n"), ("b", "m"), ("o", "n")))
        self.assertEqual([goal for _, _, goal in asked(piece)], ["o[0] == a[0]"])
        self.assertEqual([write_claim(claim) for claim in piece.claims], ["o[1] == v", "[p <= i]"])

    def test_terms_are_put(self):
        piece = self.frame("f(full a:n was o from 0 to n | i | x) with (p, q | v, w) before (-) after (a[i] == x) notes () "
                           "{ p := i+1; q := p+2; v = a[q-1]+3; a[q] = v+4; w = a[p]; v = w-1; if v < w+1 { } else { } }")
        self.assertEqual(facts(piece)[0], "wa[i+3] == a[i+2]+7")
        self.assertEqual(facts(piece)[1], "all k (or([k <= i+2], [i+4 <= k]) -> wa[k] == a[k])")
        self.assertEqual(facts(piece)[2], "not(wa[i+1]-1 < wa[i+1]+1)")
        self.assertEqual([goal for kind, _, goal in asked(piece) if kind[0] == "after"], ["wa[i] == x"])
        # From a loop on a local stands for itself until it is given something.
        piece = self.frame("f(full a:n was o from 0 to n | - | -) with (p, q | v) before (-) after (-) notes ([p < q]) "
                           "{ while [p < q] { q := p-1; p := q+5; v = v+1 } }", 2)
        self.assertEqual([goal for _, _, goal in asked(piece)], ["[p+4 < p-1]"])

    def test_which_k(self):
        """The first one that is no name of the function; a was name counts at the beginning, too."""
        for was, place, expected in (("o", "i", "k"), ("k", "i", "kk"), ("k", "kk", "kkk"), ("kk", "i", "k")):
            piece = self.frame("f(full a:n was %s from 0 to n | %s | -) with (- | -) before (-) after (-) notes () { a[0] = 1 }"
                               % (was, place))
            self.assertEqual(piece.facts[1][1], (expected,))

    def test_own_names_that_are_not_fresh(self):
        text = ("f(full a:n was o from 0 to n | - | -) with (p, q | -) before (all p (and() -> a[p] == 0)) "
                "after (all q, k (and([q <= k], [o in 0 to n]) -> a[q] == a[k])) notes () { }")
        code = program(text.replace("[o in 0 to n]", "[k <= n]"))
        piece = pieces(code, "f")[0]
        self.assertEqual(write_claim(piece.claims[0]), "all k (and() -> a[k] == 0)")
        self.assertEqual([goal for _, _, goal in asked(piece)], ["all kk, k (and([kk <= k], [k <= n]) -> a[kk] == a[k])"])

    def test_own_names_that_were_names_shadow(self):
        """At the beginning a was name is no name of the frame, so an own name can be like it."""
        code = program("f(full a:n was o from 0 to n | - | -) with (- | -) before (all o (and() -> a[o] == 0)) after (-) "
                       "notes () { }")
        self.assertEqual(write_claim(pieces(code, "f")[0].claims[0]), "all o (and() -> a[o] == 0)")


class Facts(unittest.TestCase):
    """[6.4], [6.5]"""

    def test_conditions_with_either_answer(self):
        f = function("f", ("if", ("val", "<", ("a", "", 0, 0), ("", 3)), (), ()))
        made = pieces(Program((f,)), "f")
        self.assertEqual([facts(piece) for piece in made], [["not(a[0] < 3)"], ["a[0] < 3"]])

    def test_writes(self):
        f = function("f", put(0, 1), ("write", "a", "n", -1, ("a", "", 0, 2)))
        self.assertEqual(facts(pieces(Program((f,)), "f")[0]), [
            "wa[0] == 1", "all k (or([k <= -1], [1 <= k]) -> wa[k] == a[k])",
            "wb[n-1] == wa[0]+2", "all k (or([k <= n-2], [n <= k]) -> wb[k] == wa[k])"])

    def test_forks_with_one_to_three_calls(self):
        head = "f(full a:n was o from 0 to n | i, j | -) with (- | -) before ([0 <= i]) after (-) notes () { fork %s }\n"
        leaf = ("leaf(full p:l was pp from g to h | g, h | y) with (- | -) before (-) after (p[g] == y & pp[h] == p[l-1]) "
                "notes () { }")
        calls = ["leaf(a | 0, i | a[j]+1)", "leaf(a | i, j+1 | 2)", "leaf(a | j+1, n | a[0])"]
        piece = pieces(program(head % calls[0] + leaf), "f")[0]
        self.assertEqual(facts(piece), [
            "all k (or([k in 0 to 0], [i <= k]) -> wa[k] == a[k])", "wa[0] == a[j]+1", "a[i] == wa[n-1]",
            "all k ([k in 0 to i] -> wb[k] == wa[k])", "all k (and(or([k in 0 to 0], [i <= k])) -> wb[k] == a[k])"])
        piece = pieces(program(head % ", ".join(calls) + leaf), "f")[0]
        self.assertEqual(facts(piece), [
            "all k (or([k in 0 to 0], [i <= k]) -> wa[k] == a[k])", "wa[0] == a[j]+1", "a[i] == wa[n-1]",
            "all k (or([k in 0 to i], [j+1 <= k]) -> wb[k] == a[k])", "wb[i] == 2", "a[j+1] == wb[n-1]",
            "all k (or([k in 0 to j+1], [n <= k]) -> wc[k] == a[k])", "wc[j+1] == a[0]", "a[n] == wc[n-1]",
            "all k ([k in 0 to i] -> wd[k] == wa[k])", "all k ([k in i to j+1] -> wd[k] == wb[k])",
            "all k ([k in j+1 to n] -> wd[k] == wc[k])",
            "all k (and(or([k in 0 to 0], [i <= k]), or([k in 0 to i], [j+1 <= k]), or([k in 0 to j+1], [n <= k])) "
            "-> wd[k] == a[k])"])
        self.assertEqual(piece.names, {"a": "wd"})
        self.assertEqual(facts(pieces(program(head % ", ".join(calls[:2]) + leaf), "f")[0])[6:9], [
            "all k ([k in 0 to i] -> wc[k] == wa[k])", "all k ([k in i to j+1] -> wc[k] == wb[k])",
            "all k (and(or([k in 0 to 0], [i <= k]), or([k in 0 to i], [j+1 <= k])) -> wc[k] == a[k])"])

    def test_look_arguments_and_other_lengths(self):
        """Two arrays, one handed over several times; the lengths of the called function go to others."""
        code = program(
            "f(full a:n was o from 0 to n, full b:m was u from 0 to m, look c:m from 0 to m | i | -) with (- | -) before (-) "
            "after (-) notes () { a[0] = 7; fork g(b, a, a | i | -), g(a, b, c | i+1 | -); fork h(c | - | -) }\n"
            "g(full p:l was pp from 0 to l, look q:r from q to r, look s:r from 0 to r | t | -) with (- | -) before (-) "
            "after (p[t] == q[r-1] & pp[l] == s[t]) notes () { }\n"
            "h(look z:l from 0 to l | - | -) with (- | -) before (-) after (z[0] == z[l-1]) notes () { }".replace(
                "from q to r", "from t to r"))
        piece = pieces(code, "f")[0]
        self.assertEqual([array for array, _ in piece.frame.arrays], ["a", "b", "c", "wa", "wb", "wc", "wd", "we"])
        self.assertEqual([length for _, length in piece.frame.arrays], ["n", "m", "m", "n", "m", "n", "n", "m"])
        self.assertEqual(facts(piece)[2:], [
            "all k (or([k in 0 to 0], [m <= k]) -> wb[k] == b[k])", "wb[i] == wa[n-1]", "b[m] == wa[i]",
            "all k (or([k in 0 to 0], [n <= k]) -> wc[k] == wa[k])", "wc[i+1] == b[m-1]", "wa[n] == c[i+1]",
            "all k ([k in 0 to n] -> wd[k] == wc[k])", "all k (and(or([k in 0 to 0], [n <= k])) -> wd[k] == wa[k])",
            "all k ([k in 0 to m] -> we[k] == wb[k])", "all k (and(or([k in 0 to 0], [m <= k])) -> we[k] == b[k])",
            "c[0] == c[m-1]"])
        self.assertEqual(piece.names, {"a": "wd", "b": "we", "c": "c"})

    def test_two_full_arguments_of_one_call(self):
        code = program(
            "f(full a:n was o from 0 to n | i | -) with (- | -) before (-) after (-) notes () { fork g(a, a | i | -) }\n"
            "g(full p:l was pp from 0 to t, full q:l was qq from t to l | t | -) with (- | -) before (-) after "
            "(p[0] == q[0] & pp[0] == qq[0] & all i (and() -> p[i] == qq[i])) notes () { }")
        self.assertEqual(facts(pieces(code, "f")[0]), [
            "all k (or([k in 0 to 0], [i <= k]) -> wa[k] == a[k])", "all k (or([k in 0 to i], [n <= k]) -> wb[k] == a[k])",
            "wa[0] == wb[0]", "a[0] == a[0]", "all k (and() -> wa[k] == a[k])",
            "all k ([k in 0 to i] -> wc[k] == wa[k])", "all k ([k in i to n] -> wc[k] == wb[k])",
            "all k (and(or([k in 0 to 0], [i <= k]), or([k in 0 to i], [n <= k])) -> wc[k] == a[k])"])

    def test_arguments_that_are_locals(self):
        code = program(
            "f(full a:n was o from 0 to n | i | -) with (p | v) before (-) after (-) notes () "
            "{ p := i+1; v = a[p]; a[p] = 0; fork g(a | p+1 | v+1) }\n"
            "g(full b:l was bb from t-1 to t | t | y) with (- | -) before (y <= b[t]) after (b[t] == y) notes () { }")
        piece = pieces(code, "f")[0]
        self.assertEqual(facts(piece)[2:], [
            "all k (or([k in 0 to i+1], [i+2 <= k]) -> wb[k] == wa[k])", "wb[i+2] == a[i+1]+1",
            "all k ([k in i+1 to i+2] -> wc[k] == wb[k])", "all k (and(or([k in 0 to i+1], [i+2 <= k])) -> wc[k] == wa[k])"])
        # A claim before is about what the function sees ahead of the fork.
        self.assertEqual([goal for kind, _, goal in asked(piece) if kind[0] == "before"], ["a[i+1]+1 <= wa[i+2]"])


class Questions(unittest.TestCase):
    """[6.6]"""

    def cells(self, text):
        """The given claims and the cell of each question."""
        code = program("f(look a:n from i to j | i, j | -) with (- | v) before ([0 <= i]) after (-) notes () { if %s { } else { } }"
                       % text)
        piece = pieces(code, "f")[0]
        found = []
        for kind, question in piece.questions():
            self.assertEqual(kind, ("inside", 0))
            self.assertEqual(question.claims[0], read_claim("[0 <= i]"))
            term = question.goal[1][0][3]
            self.assertEqual(question.goal, usable_claim(piece.frame, "a", (("i", 0), ("j", 0)), term))
            found.append(([write_claim(claim) for claim in question.claims[1:]], term))
        return found

    def test_parts_of_conditions(self):
        self.assertEqual(self.cells("a[i] < 0"), [([], ("i", 0))])
        self.assertEqual(self.cells("a[i] < a[j]"), [([], ("i", 0)), ([], ("j", 0))])
        self.assertEqual(self.cells("a[0] == a[0]"), [([], ("", 0)), ([], ("", 0))])
        self.assertEqual(self.cells("and([i < j], a[i] < 0, 0 < a[j])"), [
            (["[i < j]"], ("i", 0)), (["[i < j]", "a[i] < 0"], ("j", 0))])
        self.assertEqual(self.cells("or([i < j], a[i] < 0, 0 < a[j])"), [
            (["not([i < j])"], ("i", 0)), (["not([i < j])", "not(a[i] < 0)"], ("j", 0))])

    def test_parts_in_one_another(self):
        self.assertEqual(self.cells("and([0 < i], or([0 < j], not(and([j < i], a[i] < 0)), a[j] < 0), a[0] < 0)"), [
            (["[0 < i]", "not([0 < j])", "[j < i]"], ("i", 0)),
            (["[0 < i]", "not([0 < j])", "not(not(and([j < i], a[i] < 0)))"], ("j", 0)),
            (["[0 < i]", "or([0 < j], not(and([j < i], a[i] < 0)), a[j] < 0)"], ("", 0))])
        # What stands in a not is taken as it is.
        self.assertEqual(self.cells("not(or([0 < i], a[i] < 0))"), [(["not([0 < i])"], ("i", 0))])
        self.assertEqual(self.cells("not(not(and([0 < i], not(a[i] < 0))))"), [(["[0 < i]"], ("i", 0))])

    def test_loops_are_asked_with_their_notes(self):
        code = program("f(look a:n from 0 to n | i | -) with (- | -) before (-) after (-) notes ([0 <= i] & [i < n]) "
                       "{ while and([i < 9], a[i] < 0) { } }")
        made = pieces(code, "f")
        self.assertEqual([kind for kind, _, _ in asked(made[0])], [("note", 0), ("note", 1)])
        self.assertEqual(asked(made[1])[0], (("inside", 0), ["[i < 9]"], "and([0 <= i], [i < n], [0 <= i], [i < n])"))
        self.assertEqual(asked(made[2])[0], asked(made[1])[0])
        self.assertEqual([kind for kind, _, _ in asked(made[2])], [("inside", 0), ("note", 0), ("note", 1)])

    def test_rows_with_several_cells(self):
        code = program("f(full a:n was o from i to n, look b:m from 0 to i | i | -) with (- | v) before (-) after (-) notes () "
                       "{ v = b[i]; a[i+1] = b[0]; a[0] = v }")
        self.assertEqual([(kind, len(given), goal) for kind, given, goal in asked(pieces(code, "f")[0])], [
            (("inside", 0), 0, "and([0 <= i], [i < m], [0 <= i], [i < i])"),
            (("inside", 1), 0, "and([0 <= 0], [0 < m], [0 <= 0], [0 < i])"),
            (("inside", 1), 0, "and([0 <= i+1], [i+1 < n], [i <= i+1], [i+1 < n])"),
            (("inside", 2), 2, "and([0 <= 0], [0 < n], [i <= 0], [0 < n])")])

    def test_forks(self):
        """Cells of values, then rights within, then apart, then claims before; all in order."""
        code = program(
            "f(full a:n was o from 0 to i, look b:n from i to n | i | -) with (- | -) before (-) after ([0 <= i] & [i <= n]) "
            "notes () { fork g(a, a | i | a[0], 1), g(b, b | i+1 | b[i], a[i]), h(a, b | - | -) }\n"
            "g(look p:l from 0 to t, look q:l from t to l | t | x, y) with (- | -) before (x <= y & p[t] == q[t]) after (-) "
            "notes () { }\n"
            "h(full p:l was pp from 0 to l, look q:l from 1 to l | - | -) with (- | -) before (p[0] == q[l-1]) after (-) "
            "notes () { }")
        piece = pieces(code, "f")[0]
        self.assertEqual([(kind, len(given)) for kind, given, _ in asked(piece)], [
            (("inside", 0), 0), (("inside", 0), 0), (("inside", 0), 0),
            (("within", 0, 0, 0), 0), (("within", 0, 0, 1), 0), (("within", 0, 1, 0), 0), (("within", 0, 1, 1), 0),
            (("within", 0, 2, 0), 0), (("within", 0, 2, 1), 0),
            (("apart", 0, 0, 0, 2, 0), 0), (("apart", 0, 0, 1, 2, 0), 0),
            (("before", 0, 0, 0), 0), (("before", 0, 0, 1), 0), (("before", 0, 1, 0), 0), (("before", 0, 1, 1), 0),
            (("before", 0, 2, 0), 0), (("after", 0), 3), (("after", 1), 3)])
        goals = [goal for _, _, goal in asked(piece)]
        self.assertEqual(goals[:3], ["and([0 <= 0], [0 < n], [0 <= 0], [0 < i])", "and([0 <= i], [i < n], [i <= i], [i < n])",
                                     "and([0 <= i], [i < n], [0 <= i], [i < i])"])
        self.assertEqual(goals[3:6], ["or([i <= 0], and([0 <= 0], [i <= i]))", "or([n <= i], and([0 <= i], [n <= i]))",
                                      "or([i+1 <= 0], and([i <= 0], [i+1 <= n]))"])
        self.assertEqual(goals[8:11], ["or([n <= 1], and([i <= 1], [n <= n]))", "or([i <= 0], [n <= 0], [i <= 0], [n <= 0])",
                                       "or([n <= 0], [n <= i], [n <= i], [n <= 0])"])
        self.assertEqual(goals[11:16], ["a[0] <= 1", "a[i] == a[i]", "b[i] <= a[i]", "b[i+1] == b[i+1]", "a[0] == b[n-1]"])

    def test_two_arguments_of_one_branch(self):
        code = program("f(full a:n was o from 0 to n | - | -) with (- | -) before (-) after (-) notes () "
                       "{ fork g(a, a, a | - | -), g(a, a, a | - | -) }\n"
                       "g(full p:l was pp from 0 to 1, look q:l from 1 to 2, look r:l from 2 to l | - | -) with (- | -) "
                       "before (-) after (-) notes () { }")
        kinds = [kind[2:] for kind, _, _ in asked(pieces(code, "f")[0]) if kind[0] == "apart"]
        self.assertEqual(kinds, [(0, 0, 0, 1), (0, 0, 0, 2), (0, 0, 1, 0), (0, 0, 1, 1), (0, 0, 1, 2), (0, 1, 1, 0),
                                 (0, 2, 1, 0), (1, 0, 1, 1), (1, 0, 1, 2)])

    def test_goals_of_notes(self):
        made = pieces(TWO, "fill")
        self.assertEqual([kind for kind, _, _ in asked(made[2])], [("inside", 2), ("note", 0), ("note", 1), ("note", 2),
                                                                   ("note", 3)])
        self.assertEqual(asked(made[2])[1][2], "all k ([k in s to i+1] -> wa[k] == x)")


class AlongRuns(unittest.TestCase):
    def test_what_runs_see(self):
        """[6.7]: what is seen on the way makes the facts true, and answers the questions."""
        counts = {}
        for seed in range(900):
            code, maker = claimed_program(seed, 0.7, seed % 4 == 0)
            error = raised(pieces, code, "main")
            if error is not None:
                self.assertIsInstance(error, (TooMany, InvalidOperation))
                continue
            made = pieces(code, "main")
            for _ in range(2):
                tracker = Tracker(code, "main", maker.beginning(code["main"], 4), maker.rng.choice)
                tracker.go(30)
                for seen in tracker.told:
                    self.check(seen, made, counts)
        for word in ("within", "apart", "before", "note", "after", "inside"):
            for answer in (True, False):
                self.assertGreater(counts[word, answer], 50, counts)

    def check(self, seen, made, counts):
        many, whole = len(seen.answers), hasattr(seen, "stop")
        fitting = [piece for piece in made if piece.start == seen.start and piece.answers[:many] == seen.answers]
        fitting = [piece for piece in fitting if piece.trail[:len(seen.trail)] == seen.trail]
        piece = fitting[0]
        situation = seen.situation(piece.frame)
        facts = [situation.holds(claim) for claim in piece.facts]
        if whole:
            self.assertEqual([(one.answers, one.trail, one.stop) for one in fitting], [(seen.answers, seen.trail, seen.stop)])
        self.assertEqual(facts if whole else facts[:len(seen.facts)], seen.facts)
        told, fault = dict(seen.questions), seen.fault or (None, ("none",))
        for kind in told:
            self.assertIn(kind, [one for one, _ in piece.questions()])
        for kind, question in piece.questions():
            if kind in told:
                self.assertIs(situation.holds(question.goal), told[kind])
                counts[kind[0], told[kind]] = counts.get((kind[0], told[kind]), 0) + 1
            elif kind[0] == "inside" and kind[1] in seen.trail and kind[1] != fault[0]:
                if all([situation.holds(claim) for claim in question.claims]):
                    self.assertTrue(situation.holds(question.goal))
                    counts["inside", True] = counts.get(("inside", True), 0) + 1
        if fault[1][0] in ("outside", "right") and all(seen.facts):
            broken = [question for kind, question in piece.questions()
                      if kind == ("inside", fault[0]) and question.is_broken_by(situation)]
            self.assertGreater(len(broken), 0)
            counts["inside", False] = counts.get(("inside", False), 0) + 1


class Limits(unittest.TestCase):
    def test_sixty_four_pieces(self):
        f = function("f", *((SKIP,) * 6))
        self.assertEqual(len(pieces(Program((f,)), "f")), 64)
        f = function("f", *((SKIP,) * 7))
        self.assertEqual(raised(pieces, Program((f,)), "f").bound, 64)
        f = function("f", *((SKIP,) * 5 + (("while", YES, ((SKIP,) * 3)),)))
        # 32 up to the loop, one behind it, and 8 around it.
        self.assertEqual(len(pieces(Program((f,)), "f")), 41)
        f = function("f", *((SKIP,) * 5 + (("while", YES, ((SKIP,) * 5)),)))
        self.assertEqual(raised(pieces, Program((f,)), "f").bound, 64)
        many = function("f", *((SKIP,) * 24))
        self.assertEqual(raised(pieces, Program((many,)), "f").bound, 64)

    def test_writes_and_forks(self):
        self.assertEqual(len(pieces(Program((function("f", *((put(0, 1),) * 4)),)), "f")), 1)
        self.assertEqual(raised(pieces, Program((function("f", *((put(0, 1),) * 5)),)), "f").bound, 4)
        looks = function("g", arrays=(("look", "b", "m", ("", 0), ("m", 0)),))
        row = fork(("g", ("a",)))
        self.assertEqual(len(pieces(Program((function("f", row, row), looks)), "f")), 1)
        self.assertEqual(raised(pieces, Program((function("f", row, row, row), looks)), "f").bound, 2)
        # Writes come first, also where both are too many; then the frame; and pieces ahead of all.
        error = raised(pieces, Program((function("f", *((row,) * 3 + (put(0, 1),) * 5)), looks)), "f")
        self.assertEqual(error.bound, 4)
        error = raised(pieces, Program((function("f", *((SKIP,) * 7 + (put(0, 1),) * 5)),)), "f")
        self.assertEqual(error.bound, 64)
        # The first piece that has one of them counts: behind False three forks, behind True five writes.
        f = function("f", ("if", YES, (put(0, 1),) * 5, (row,) * 3))
        self.assertEqual(raised(pieces, Program((f, looks)), "f").bound, 2)
        f = function("f", ("if", YES, (row,) * 3, (put(0, 1),) * 5))
        self.assertEqual(raised(pieces, Program((f, looks)), "f").bound, 4)
        # Writes on different pieces do not add up.
        f = function("f", *((put(0, 1),) * 4 + (("while", YES, (put(0, 1),) * 4),) + (put(0, 1),) * 4))
        self.assertEqual(len(pieces(Program((f,)), "f")), 3)

    def test_twelve_arrays(self):
        """Two arrays and nine versions are eleven; with a was name at a loop there are more."""
        leaf = function("leaf")
        row = fork(*[("leaf", ("a",))] * 3)
        self.assertEqual(len(pieces(Program((function("f", row, row, put(0, 1), put(0, 1), put(0, 1)), leaf)), "f")[0].frame.arrays),
                         12)
        error = raised(pieces, Program((function("f", row, row, *((put(0, 1),) * 4)), leaf)), "f")
        self.assertIsInstance(error, InvalidOperation)
        loop = function("f", ("while", YES, (row, row, put(0, 1), put(0, 1))))
        self.assertEqual(len(pieces(Program((loop, leaf)), "f")[2].frame.arrays), 12)
        loop = function("f", ("while", YES, (row, row, put(0, 1), put(0, 1), put(0, 1))))
        self.assertIsInstance(raised(pieces, Program((loop, leaf)), "f"), InvalidOperation)
        # Behind writes that are too many the frame is no error of its own.
        loop = function("f", ("while", YES, (row, row) + (put(0, 1),) * 5))
        self.assertEqual(raised(pieces, Program((loop, leaf)), "f").bound, 4)

    def test_forty_given_claims(self):
        parts = tuple([("pos", "<=", ("", 0), ("n", k)) for k in range(40)])
        cell = ("val", "==", ("a", "", 0, 0), ("", 0))
        f = function("f", ("if", ("and", parts + (cell,)), (), ()))
        made = pieces(Program((f,)), "f")
        self.assertEqual(len(made[0].questions()[0][1].claims), 40)
        f = function("f", ("if", ("and", parts + (YES, cell)), (), ()))
        self.assertIsInstance(raised(pieces, Program((f,)), "f"), InvalidOperation)
        # Many facts are no error without a question behind them.
        f = function("f", ("if", ("and", parts + (YES,)), (), ()))
        self.assertEqual(len(pieces(Program((f,)), "f")), 2)

    def test_first_errors(self):
        for value in odd_values():
            self.assertIsInstance(raised(pieces, value, None), InvalidProgram)
            self.assertIsInstance(raised(pieces, TWO, value), UnknownName)

    def test_conditions_as_deep_as_they_can_be(self):
        condition = ("val", "==", ("a", "", 0, 0), ("", 0))
        for _ in range(10):
            condition = ("and", (condition,))
        made = pieces(Program((function("f", ("if", condition, (), ())),)), "f")
        self.assertTrue(is_claim(made[0].frame, made[0].facts[0]))
        self.assertEqual(len(made[0].questions()), 1)


class Values(unittest.TestCase):
    def test_properties(self):
        piece = pieces(TWO, "fill")[2]
        self.assertEqual((piece.program, piece.called, piece.start, piece.stop, piece.answers, piece.trail),
                         (TWO, "fill", 0, 0, (True,), (1, 2, 3)))
        self.assertEqual((piece.claims, piece.facts[:4]), (FILL.notes[0], FILL.notes[0]))
        self.assertEqual((len(piece.facts), piece.names, type(piece)), (7, {"a": "wa"}, Piece))
        piece.names.clear()
        self.assertEqual(piece.names, {"a": "wa"})
        self.assertEqual(list(pieces(program(
            "f(full z:n was o from 0 to n, look b:n from 0 to n | - | -) with (- | -) before (-) after (-) notes () { }"),
            "f")[0].names), ["b", "z"])

    def test_equality(self):
        made = pieces(TWO, "fill")
        self.assertEqual(made, pieces(Program((HALVES, FILL)), "fill"))
        self.assertNotEqual(made[0], made[1])
        self.assertNotEqual(made[1], made[2])
        self.assertNotEqual(made[0], pieces(Program((FILL,)), "fill")[0])
        # The same answers from another beginning, and of another function.
        self.assertNotEqual(made[0], pieces(TWO, "halves")[0])
        twice = pieces(Program((function("f", ("while", YES, ()), ("while", YES, ())),)), "f")
        self.assertEqual((twice[1].answers, twice[3].answers), ((False,), (False,)))
        self.assertNotEqual(twice[1], twice[3])
        both = function("f", SKIP)
        self.assertNotEqual(*pieces(Program((both,)), "f"))
        for value in odd_values() + [str(made[0]), TWO]:
            self.assertFalse(made[0] == value)
            self.assertTrue(made[0] != value)
        self.assertRaises(TypeError, iter, made[0])

    def test_is_right(self):
        self.assertEqual([piece.is_right() for piece in pieces(TWO, "fill")], [True, True, True])
        loose = TWO.with_function(FILL.with_notes(0, FILL.notes[0][1:]))
        self.assertEqual([piece.is_right() for piece in pieces(loose, "fill")], [True, False, True])
        # One that is too great is an error, also behind one that is broken.
        cells = ("and", tuple([("val", "==", ("a", "n", k, 0), ("", 0)) for k in range(20)]))
        f = function("f", put(0, 1), ("if", cells, (), ()))
        self.assertEqual(raised(pieces(Program((f,)), "f")[0].is_right).bound, 16)
        f = function("f", put(0, 1), before=(("pos", "<=", ("", 999), ("n", 0)),))
        self.assertEqual(raised(pieces(Program((f,)), "f")[0].is_right).bound, 1000)

    def test_arguments_stay(self):
        texts = (str(COPY), str(BOTH), COPY.rows, COPY.notes, str(ONES))
        for piece in pieces(Program((COPY,)), "copy"):
            piece.questions(), piece.is_right()
        self.assertEqual((str(COPY), str(BOTH), COPY.rows, COPY.notes, str(ONES)), texts)
        self.assertEqual([str(one) for one in pieces(Program((COPY,)), "copy")],
                         [str(one) for one in pieces(Program((COPY,)), "copy")])


if __name__ == "__main__":
    unittest.main()

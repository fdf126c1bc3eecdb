"""Part 8b: rights that fit."""

import unittest

from forkcells.code.functions import Function
from forkcells.code.programs import Program
from forkcells.decide.follows import follows
from forkcells.errors import InvalidFunction, InvalidOperation, InvalidProgram, TooMany, UnknownName
from forkcells.pieces.kept import is_kept, is_program_kept, kinds_broken
from forkcells.pieces.pieces import pieces
from forkcells.solve.questions import Question
from forkcells.text.texts import read_claim, read_function, read_functions
from forkcells.use.contracts import stands_in
from forkcells.use.rights import fitting_highs, fitting_lows, is_fitting_right, narrowed, with_rights
from claim_makers import claimed_program
from code_samples import FILL, HALVES, TWO
from samples import SIXTY, odd_values, raised
from test_pieces import SKIP, program
from test_runs import fork, function, put

LOWS = (("", 0), ("s", 0), ("s", 1), ("t", 0), ("s", -1), ("n", 0))
LEAF = "\ng(%s p:l %sfrom %s to %s | g, h | -) with (- | -) before (-) after (-) notes () { }"


def single(rows, before="[0 <= s] & [s <= t] & [t <= n]", notes="", right="0 to 0", way="full a:n was o", more=""):
    return program("f(%s from %s | s, t | x) with (i | v) before (%s) after (-) notes (%s) %s%s"
                   % (way, right, before, notes, rows, more))


def fit(code, lows=LOWS, array="a"):
    """The lows, and the highs, that fit."""
    return fitting_lows(code, "f", array, lows), fitting_highs(code, "f", array, lows)


def leaf(low, high, way="full", was="was pp "):
    return LEAF % (way, was, low, high)


class Fitting(unittest.TestCase):
    """[8.4], [8.5]"""

    def test_cells_in_rows(self):
        self.assertEqual(fit(single("{ a[s] = x }")), ((0, 1, 4), (2,)))
        self.assertEqual(fit(single("{ a[s] = x }"), (("s", 1), ("s", 2), ("s", 0), ("n", 1))), ((2,), (0, 1, 3)))
        self.assertEqual(fit(single("{ v = a[t-1] }", "[s < t]"), (("s", 0), ("t", 0), ("t", -1), ("t", -2))),
                         ((0, 2, 3), (1,)))
        # Both the cell that is written and the one that is read.
        self.assertEqual(fit(single("{ a[s] = a[t] }"), (("s", 0), ("t", 0), ("t", 1))), ((0,), (2,)))
        # What is known of locals counts.
        self.assertEqual(fit(single("{ i := s+1; a[i] = x }"), (("s", 0), ("s", 1), ("s", 2))), ((0, 1), (2,)))

    def test_cells_in_conditions(self):
        code = single("{ if and([s < t], a[s] < x) { } else { } }")
        self.assertEqual(fit(code, (("s", 0), ("t", 0), ("t", -1), ("s", 1))), ((0,), (1, 3)))
        code = single("{ if or([s < t], a[t] < x) { } else { } }")
        self.assertEqual(fit(code, (("s", 0), ("t", 0), ("s", 1))), ((0, 1), (2,)))
        self.assertEqual(fit(single("{ if a[s] < x { } else { } }"), (("t", 1), ("t", 0))), ((), (0,)))

    def test_loops_with_notes(self):
        text = "{ i := s; while [i < t] { a[i] = x; i := i+1 } }"
        self.assertEqual(fit(single(text, notes="[s <= i]")), ((1, 4), (3,)))
        self.assertEqual(fit(single(text, notes="[s <= i] & [0 <= s]")), ((0, 1, 4), (3,)))
        # Without the note that says that i is at least s none of them fits.
        self.assertEqual(fit(single(text, notes="-")), ((), (3,)))
        # What is known of locals alone counts behind the beginning.
        self.assertEqual(fit(single(text, notes="[3 <= i]"), (("", 3), ("", 4), ("s", 0)))[0], (0,))

    def test_arguments_of_forks(self):
        text = "{ fork g(a | s, t | -) }"
        self.assertEqual(fit(single(text, more=leaf("g", "h"))), ((0, 1, 4), (3, 5)))
        # Where it is empty any right will do.
        self.assertEqual(fit(single(text, more=leaf("h", "g"))), (tuple(range(6)), tuple(range(6))))
        self.assertEqual(fit(single("{ fork g(a | 5, 5 | -) }", more=leaf("g", "h"))), (tuple(range(6)), tuple(range(6))))
        self.assertEqual(fit(single("{ fork g(a | 7, 5 | -) }", more=leaf("g", "h"))), (tuple(range(6)), tuple(range(6))))
        self.assertEqual(fit(single(text, "[0 <= s] & [s == t] & [t <= n]", more=leaf("g", "h"))), (tuple(range(6)), tuple(range(6))))
        # Arguments to look count likewise, and so do all branches.
        self.assertEqual(fit(single(text, more=leaf("g", "h", "look", ""))), ((0, 1, 4), (3, 5)))
        self.assertEqual(fit(single("{ fork g(a | s, t | -), g(a | 0, s | -) }", more=leaf("g", "h"))), ((0,), (3, 5)))

    def test_it_does_not_hang_on_the_right(self):
        rows = "{ i := s; while [i < t] { a[i] = x; i := i+1 } }"
        expected = fit(single(rows, notes="[s <= i]"))
        for right in ("0 to n", "n to 0", "s-5 to t+9", "s to t"):
            self.assertEqual(fit(single(rows, notes="[s <= i]", right=right)), expected)

    def test_arrays_that_are_never_used(self):
        code = single("{ a[s] = x }", way="full a:n was o from 0 to n, look b:m")
        self.assertEqual(fit(code, LOWS + (("m", 9),), "b"), (tuple(range(7)), tuple(range(7))))
        self.assertEqual(fit(program("f(look a:n from 0 to n | s, t | -) with (- | -) before (-) after (-) notes () { }")),
                         (tuple(range(6)), tuple(range(6))))

    def test_arrays_with_one_length(self):
        """Only what is about the array itself counts."""
        code = single("{ a[s] = b[t] }", way="full a:n was o from 0 to n, look b:n")
        self.assertEqual(fit(code, (("s", 0), ("t", 0), ("s", 1), ("t", 1)), "a"), ((0,), (2, 3)))
        self.assertEqual(fit(code, (("s", 0), ("t", 0), ("s", 1), ("t", 1)), "b"), ((0, 1), (3,)))

    def test_claims_by_their_words(self):
        """The questions of [8.4], made by hand out of those of the pieces."""
        for seed in range(150):
            code, maker = claimed_program(seed, 0.3, seed % 2 == 0)
            called = "main"
            function = code[called]
            if raised(pieces, code, called) is not None or called in function.callees:
                continue
            for told in function.arrays:
                words = ("",) + function.positions + (told[2],)
                terms = tuple([(maker.rng.choice(words), maker.rng.choice([-1, 0, 0, 1])) for _ in range(4)])
                for side, call in (("low", fitting_lows), ("high", fitting_highs)):
                    expected = tuple([k for k in range(4) if self.fits(code, function, told[1], terms[k], side)])
                    error = raised(call, code, called, told[1], terms)
                    if error is None:
                        self.assertEqual(call(code, called, told[1], terms), expected)

    def fits(self, code, function, array, term, side):
        for piece in pieces(code, function.called):
            cells = []
            for kind, question in piece.questions():
                wanted = None
                if kind[0] == "inside":
                    spot = question.goal[1][0][3]
                    # Another array can have the same right and length: then the row tells.
                    cells.append((kind, question))
                    same = [one for one in cells if one[0] == kind]
                    name = self.cell_arrays(function.row(kind[1]))[len(same) - 1]
                    if name == array:
                        wanted = ("pos", "<=", term, spot) if side == "low" else ("pos", "<", spot, term)
                elif kind[0] == "within" and function.row(kind[1])[1][kind[2]][1][kind[3]] == array:
                    low, high = question.goal[1][0][3], question.goal[1][0][2]
                    inside = ("pos", "<=", term, low) if side == "low" else ("pos", "<=", high, term)
                    wanted = ("or", (("pos", "<=", high, low), inside))
                if wanted is not None:
                    asked = Question(question.frame, question.claims, wanted)
                    if len(asked.members) > 16 or asked.few > 1000 or not follows(asked):
                        return False
        return True

    def cell_arrays(self, row):
        """The arrays of the cells of a row, in order."""
        def of_claim(claim):
            if claim[0] == "not":
                return of_claim(claim[1])
            if claim[0] in ("and", "or"):
                return [array for part in claim[1] for array in of_claim(part)]
            return [term[0] for term in claim[2:] if claim[0] == "val" and len(term) == 4]
        if row[0] in ("if", "while"):
            return of_claim(row[1])
        if row[0] == "fork":
            return [term[0] for call in row[1] for term in call[3] if len(term) == 4]
        return [term[0] for term in row[-1:] if len(term) == 4] + ([row[1]] if row[0] == "write" else [])

    def test_within_both_all_questions_follow(self):
        """[8.5]: with a low and a high that fit, what is asked of rights follows, if cells are inside."""
        code = single("{ i := s; while [i < t] { a[i] = x; i := i+1 } }", notes="[s <= i] & [0 <= s] & [t <= n]")
        self.assertEqual(kinds_broken(code), {"f": ("inside",)})
        fitted = code.with_function(with_rights(code["f"], {"a": (("s", 0), ("t", 0))}))
        self.assertEqual(kinds_broken(fitted), {"f": ()})
        outside = single("{ a[s] = x }", "-")
        fitted = outside.with_function(with_rights(outside["f"], {"a": (("s", 0), ("s", 1))}))
        self.assertTrue(is_fitting_right(outside, "f", "a", (("s", 0), ("s", 1))))
        self.assertEqual(kinds_broken(fitted), {"f": ("inside",)})


class IsFittingRight(unittest.TestCase):
    def test_values(self):
        good = (("s", 0), ("t", 0))
        self.assertIs(is_fitting_right(TWO, "fill", "a", good), True)
        self.assertIs(is_fitting_right(TWO, "fill", "a", (("", 0), ("n", 5))), True)
        for value in odd_values() + [good[::-1], good + good, good[:1], list(good), (("s", 0), ["t", 0]), (("s", True), ("t", 0)),
                                     (("i", 0), ("t", 0)), (("x", 0), ("t", 0)), (("s", 1), ("t", 0)), (("s", 0), ("t", -1)),
                                     (("s", -10 ** 40), ("t", 0)), (("old", 0), ("t", 0)), (("s", 0), ("m", 0))]:
            self.assertIs(is_fitting_right(TWO, "fill", "a", value), False, value)
        for value in odd_values():
            self.assertIs(is_fitting_right(TWO, "fill", "a", (value, ("t", 0))), False)
            self.assertIs(is_fitting_right(TWO, "fill", "a", (("s", 0), value)), False)

    def test_errors_also_where_it_is_no_pair(self):
        own = Program((function("f", fork(("f", ("a",)))),))
        for value in (None, (("", 0), ("n", 0))):
            self.assertIsInstance(raised(is_fitting_right, own, "f", "a", value), InvalidOperation)
            self.assertEqual(raised(is_fitting_right, Program((function("f", *((SKIP,) * 7)),)), "f", "a", value).bound, 64)
        self.assertEqual(raised(is_fitting_right, TWO, "fill", "a", (("s", 999), ("t", 0))).bound, 1000)
        # The high is too great, also behind a low that does not fit.
        self.assertEqual(raised(is_fitting_right, TWO, "fill", "a", (("s", 1), ("t", 999))).bound, 1000)
        self.assertIs(is_fitting_right(TWO, "fill", "a", (("s", 999), None)), False)


class Narrowed(unittest.TestCase):
    """[8.6]"""

    def rights(self, code, candidates):
        made = narrowed(code, "f", candidates)
        return [told[-2:] for told in made["f"].arrays]

    def test_one_array(self):
        code = single("{ i := s; while [i < t] { a[i] = x; i := i+1 } }", notes="[s <= i] & [0 <= s]", right="-9 to n+9")
        self.assertEqual(self.rights(code, {"a": ((("", 0), ("s", 0), ("s", -1)), (("n", 0), ("t", 0), ("t", 1)))}),
                         [(("s", 0), ("t", 0))])
        self.assertEqual(self.rights(code, {"a": ((("", 0), ("", -5)), (("t", 3),))}), [(("", 0), ("t", 3))])
        # A right that is narrower than the elder one, or wider: only the candidates count.
        self.assertEqual(self.rights(with_right(code, ("s", 0), ("t", 0)), {"a": ((("", -7),), (("t", 9),))}),
                         [(("", -7), ("t", 9))])

    def test_two_arrays_and_none(self):
        code = single("{ a[s] = b[t-1] }", "[0 <= s] & [s < t]", way="full a:n was o from 0 to n, look b:n", right="0 to n")
        lows, highs = (("", 0), ("s", 0), ("t", -1)), (("t", 0), ("s", 1))
        self.assertEqual(self.rights(code, {"b": (lows, highs), "a": (lows, highs)}), [(("s", 0), ("s", 1)), (("t", -1), ("t", 0))])
        self.assertEqual(self.rights(code, {"b": (lows, highs)}), [(("", 0), ("n", 0)), (("t", -1), ("t", 0))])
        self.assertTrue(narrowed(code, "f", {}) == code)

    def test_several_that_fit_without_a_narrowest_one(self):
        code = single("{ if and([s <= t], [0 <= s]) { a[t] = x } else { } }", "-")
        found = self.rights(code, {"a": ((("s", 0), ("", 0)), (("t", 1),))})
        self.assertIn(found, [[(("s", 0), ("t", 1))], [(("", 0), ("t", 1))]])
        # By the claims before it can be told which one is greater.
        code = single("{ if and([s <= t], [0 <= s]) { a[t] = x } else { } }", "[s <= 0]")
        self.assertEqual(self.rights(code, {"a": ((("s", 0), ("", 0)), (("t", 1),))}), [(("", 0), ("t", 1))])
        # Equal ones, and claims that are never true: any of them.
        code = single("{ }", "[s == t]")
        self.assertIn(self.rights(code, {"a": ((("s", 0), ("t", 0)), (("", 0),))})[0][0], (("s", 0), ("t", 0)))
        self.assertIn(self.rights(single("{ }", "or()"), {"a": ((("s", 0), ("t", 5)), (("", 0),))})[0][0], (("s", 0), ("t", 5)))

    def test_no_other_one_is_narrower(self):
        many = 0
        for seed in range(100):
            code, maker = claimed_program(seed, 0.3, True)
            function = code["main"]
            candidates = {}
            for told in function.arrays:
                words = ("",) + function.positions + (told[2],)
                candidates[told[1]] = tuple([tuple([(maker.rng.choice(words), maker.rng.choice([-1, 0, 1])) for _ in range(5)])
                                             for _ in range(2)])
            if raised(narrowed, code, "main", candidates) is not None:
                continue
            made = narrowed(code, "main", candidates)["main"]
            for told in made.arrays:
                lows, highs = candidates[told[1]]
                self.assertTrue(is_fitting_right(code, "main", told[1], told[-2:]))
                for index in fitting_lows(code, "main", told[1], lows):
                    self.assertFalse(self.less(function, told[-2], lows[index]))
                for index in fitting_highs(code, "main", told[1], highs):
                    self.assertFalse(self.less(function, highs[index], told[-1]))
                many += 1
        self.assertGreater(many, 20)

    def less(self, function, one, other):
        """Whether a term is nowhere greater than another one, and somewhere less."""
        def at_most(one, other):
            return follows(Question(function.start_frame, function.before, ("pos", "<=", one, other)))
        return at_most(one, other) and not at_most(other, one)

    def test_kept_stays_kept(self):
        wide = with_rights(FILL, {"a": (("", 0), ("n", 0))})
        code = Program((wide,))
        self.assertTrue(is_program_kept(code))
        made = narrowed(code, "fill", {"a": ((("", 0), ("s", 0)), (("n", 0), ("t", 0)))})
        self.assertEqual(made["fill"], FILL)
        self.assertTrue(is_program_kept(made))
        self.assertTrue(stands_in(made["fill"], wide))
        # The elder rights are among the candidates, and with narrower ones a caller is kept, too.
        calling = Program((wide, HALVES))
        self.assertFalse(is_kept(calling, "halves"))
        self.assertTrue(is_kept(narrowed(calling, "fill", {"a": ((("s", 0),), (("t", 0),))}), "halves"))


def with_right(code, low, high):
    return code.with_function(with_rights(code["f"], {"a": (low, high)}))


class FalseSentences(unittest.TestCase):
    """[8.6]: an example for each of them."""

    def test_a_lesser_low(self):
        code = single("{ while [i < t] { a[i] = x; i := i+1 } }", "[0 <= s] & [s <= t]", notes="[s <= i]")
        self.assertTrue(follows(Question(code["f"].start_frame, code["f"].before, read_claim("[0 <= s]"))))
        self.assertEqual(fitting_lows(code, "f", "a", (("", 0), ("s", 0))), (1,))
        # With a note that says it, it fits.
        code = single("{ while [i < t] { a[i] = x; i := i+1 } }", "[0 <= s] & [s <= t]", notes="[s <= i] & [0 <= s]")
        self.assertEqual(fitting_lows(code, "f", "a", (("", 0), ("s", 0))), (0, 1))

    def test_one_narrowest_right(self):
        code = single("{ if and([s <= t], [0 <= s]) { a[t] = x } else { } }", "-")
        self.assertEqual(fitting_lows(code, "f", "a", (("s", 0), ("", 0))), (0, 1))
        for one, other in ((("s", 0), ("", 0)), (("", 0), ("s", 0))):
            self.assertFalse(follows(Question(code["f"].start_frame, (), ("pos", "<=", one, other))))

    def test_a_right_that_is_needed(self):
        """A run uses its least cell, but not behind the claims before of callers alone: notes must say it."""
        code = single("{ while [i < t] { a[i] = x; i := i+1 } }", "[0 <= s] & [s <= t]", notes="-")
        self.assertEqual(fitting_lows(code, "f", "a", (("", 0),)), ())

    def test_narrower_rights_and_forks_of_others(self):
        """With a narrower right, a caller that was kept can be broken no more; with a wider one it can."""
        reads = read_function("r(look q:l from 0 to l | - | -) with (- | -) before (-) after (-) notes () { }")
        both = read_function("f(full a:n was o from 0 to n | - | -) with (- | -) before (-) after (-) notes () "
                             "{ fork w(a | - | -), r(a | - | -) }")
        writes = read_function("w(full p:l was pp from 0 to l | - | -) with (- | -) before (-) after (-) notes () { }")
        code = Program((reads, both, writes))
        self.assertEqual(kinds_broken(code)["f"], ("apart",))
        made = narrowed(code, "w", {"p": ((("l", 0),), (("", 0),))})
        self.assertEqual(kinds_broken(made)["f"], ())


class WithRights(unittest.TestCase):
    def test_other_rights(self):
        f = with_rights(FILL, {"a": (("", 3), ("n", -2))})
        self.assertEqual((f.right_of("a"), f.rows, f.notes, f.before, f.after, f.called, f.places),
                         ((("", 3), ("n", -2)), FILL.rows, FILL.notes, FILL.before, FILL.after, "fill", FILL.places))
        self.assertEqual(with_rights(FILL, {}), FILL)
        code = read_functions("f(full a:n was o from 0 to n, look b:m from 0 to m | i | x) with (p | v) before ([i < n]) "
                              "after (a[0] == o[0]) notes () { v = x }")[0]
        made = with_rights(code, {"b": (("i", 0), ("n", 0))})
        self.assertEqual([told[-2:] for told in made.arrays], [(("", 0), ("n", 0)), (("i", 0), ("n", 0))])
        self.assertEqual(with_rights(made, {"b": (("", 0), ("m", 0))}), code)

    def test_errors(self):
        for value in odd_values():
            self.assertIsInstance(raised(with_rights, value, None), InvalidFunction)
            if value != {}:
                self.assertIsInstance(raised(with_rights, FILL, value), InvalidOperation)
            self.assertIsInstance(raised(with_rights, FILL, {"a": value}), InvalidOperation)
            # Some of these have the form of a position term, with another name.
            expected = InvalidFunction if value in (("pos", 1), ("ring", 1)) else InvalidOperation
            self.assertIsInstance(raised(with_rights, FILL, {"a": (("s", 0), value)}), expected)
        for rights in ({"b": (("s", 0), ("t", 0))}, {"old": (("s", 0), ("t", 0))}, {"a": [("s", 0), ("t", 0)]},
                       {"a": (("s", 0),)}, {"a": (("S", 0), ("t", 0))}, {"a": (("s", True), ("t", 0))},
                       {"a": (("s", 10 ** 60), ("t", 0))}):
            self.assertIsInstance(raised(with_rights, FILL, rights), InvalidOperation)
        for rights in ({"a": (("z", 0), ("t", 0))}, {"a": (("i", 0), ("t", 0))}, {"a": (("x", 0), ("t", 0))},
                       {"a": (("s", SIXTY), ("t", 0))}, {"a": (("s", 10 ** 40), ("t", 0))}):
            self.assertIsInstance(raised(with_rights, FILL, rights), InvalidFunction)
        self.assertEqual(with_rights(FILL, {"a": (("s", 10 ** 40 - 1), ("t", 0))}).right_of("a")[0], ("s", 10 ** 40 - 1))


class Errors(unittest.TestCase):
    def setUp(self):
        self.calls = (fitting_lows, fitting_highs)

    def test_first_errors(self):
        for call in self.calls + (is_fitting_right,):
            for value in odd_values():
                self.assertIsInstance(raised(call, value, None, None, None), InvalidProgram)
                self.assertIsInstance(raised(call, TWO, value, None, None), UnknownName)
                self.assertIsInstance(raised(call, TWO, "fill", value, None), UnknownName)
            for array in ("b", "old", "n", "s"):
                self.assertEqual(raised(call, TWO, "fill", array, None).name, array)
        for value in odd_values():
            self.assertIsInstance(raised(narrowed, value, None, None), InvalidProgram)
            self.assertIsInstance(raised(narrowed, TWO, value, None), UnknownName)

    def test_candidates(self):
        good = ("s", 0)
        for value in odd_values() + [(good,) * 9, [good], (good, ("z", 0)), (good, ("x", 0)), (good, ("i", 0)), (good, ("s", 10 ** 40)),
                                     (good, ("m", 0)), (good, None), ("s", 0)]:
            for call in self.calls:
                self.assertIsInstance(raised(call, TWO, "fill", "a", value), InvalidOperation)
            self.assertIsInstance(raised(narrowed, TWO, "fill", {"a": (value, (good,))}), InvalidOperation)
            self.assertIsInstance(raised(narrowed, TWO, "fill", {"a": ((good,), value)}), InvalidOperation)
            if value != {}:
                self.assertIsInstance(raised(narrowed, TWO, "fill", value), InvalidOperation)
            self.assertIsInstance(raised(narrowed, TWO, "fill", {"a": value}), InvalidOperation)
        for call in self.calls:
            self.assertIsNone(raised(call, TWO, "fill", "a", (good,) * 8))
        for candidates in ({"old": ((good,), (good,))}, {"b": ((good,), (good,))}, {"a": [(good,), (good,)]}, {"a": ((good,),)},
                           {"a": ((good,), (good,), (good,))}):
            self.assertIsInstance(raised(narrowed, TWO, "fill", candidates), InvalidOperation)

    def test_functions_that_fork_themselves(self):
        own = function("f", fork(("f", ("a",)), ("f", ("a",))), *((SKIP,) * 7))
        code = Program((own,))
        terms = (("", 0),)
        for call in self.calls:
            self.assertIsInstance(raised(call, code, "f", "a", terms), InvalidOperation)
            self.assertIsInstance(raised(call, code, "f", "a", ()), InvalidOperation)
        self.assertIsInstance(raised(narrowed, code, "f", {}), InvalidOperation)
        self.assertIsInstance(raised(narrowed, code, "f", {"a": (terms, terms)}), InvalidOperation)
        # Through another function it is no error.
        code = Program((function("f", fork(("g", ("a",)))), function("g", fork(("f", ("a",))))))
        self.assertEqual(fitting_lows(code, "f", "a", (("", 0), ("", 1))), (0,))

    def test_pieces_come_ahead_of_questions(self):
        code = Program((function("f", *((put(0, 1),) * 5)),))
        for call in self.calls:
            self.assertEqual(raised(call, code, "f", "a", (("", 999),)).bound, 4)
        self.assertEqual(raised(narrowed, code, "f", {}).bound, 4)
        self.assertEqual(raised(narrowed, code, "f", {"a": ((("", 999),), (("", 0),))}).bound, 4)

    def test_questions_that_are_too_great(self):
        """For any candidate, also behind one that does not fit."""
        code = Program((function("f", put(0, 1)),))
        for call in self.calls:
            self.assertEqual(raised(call, code, "f", "a", (("n", 5), ("", 999))).bound, 1000)
            self.assertEqual(call(code, "f", "a", (("n", 5), ("", -40))), (1,) if call == fitting_lows else (0,))
        # Where the array is never used no question is asked.
        idle = Program((function("f"),))
        self.assertEqual(fitting_lows(idle, "f", "a", (("", 10 ** 39),)), (0,))

    def test_narrowed_in_order(self):
        code = Program((function("f", put(0, 1)),))
        far, low = ("", 999), ("", 0)
        self.assertEqual(raised(narrowed, code, "f", {"a": ((("", 1), far), (low,))}).bound, 1000)
        # None of them fits: this comes behind all questions about fitting, and ahead of those that compare.
        self.assertIsInstance(raised(narrowed, code, "f", {"a": ((("", 1),), (("", 1),))}), InvalidOperation)
        self.assertIsInstance(raised(narrowed, code, "f", {"a": ((low,), (low,))}), InvalidOperation)
        idle = Program((Function("f", arrays=(("look", "a", "n", ("", 0), ("n", 0)), ("look", "b", "m", ("", 0), ("m", 0)))),))
        self.assertEqual(raised(narrowed, idle, "f", {"a": ((low, far), (low,))}).bound, 1000)
        self.assertEqual(raised(narrowed, idle, "f", {"a": ((low,), (far, low))}).bound, 1000)
        # That none fits for one array comes ahead of what compares those of another one.
        both = Program((Function("f", arrays=(("look", "a", "n", ("", 0), ("n", 0)), ("full", "b", "m", "o", ("", 0), ("m", 0))),
                                 rows=(("write", "b", "", 0, ("", 0)),)),))
        self.assertIsInstance(raised(narrowed, both, "f", {"a": ((low, far), (low,)), "b": ((("", 1),), (("m", 0),))}), InvalidOperation)
        self.assertIsInstance(raised(narrowed, both, "f", {"a": ((low, far), (low,)), "b": ((low,), (("", 1),))}), TooMany)
        # All pairs are compared, also equal ones.
        self.assertEqual(raised(narrowed, idle, "f", {"a": ((far, far), (low,))}).bound, 1000)
        # One alone is compared with nothing.
        self.assertEqual(narrowed(idle, "f", {"a": ((far,), (far,))})["f"].right_of("a"), (far, far))
        used = Program((function("f", put(0, 1)).with_rows((put(0, 1),), ()),))
        self.assertIsInstance(raised(narrowed, used, "f", {"a": ((("", 1),), (("", 1), far))}), TooMany)

    def test_arguments_stay(self):
        candidates = {"a": ((("", 0), ("s", 0)), (("n", 0), ("t", 0)))}
        copied, text = {"a": candidates["a"]}, str(TWO)
        narrowed(TWO, "fill", candidates)
        with_rights(FILL, {"a": (("s", 0), ("t", 0))})
        self.assertEqual((candidates, str(TWO), list(candidates)), (copied, text, ["a"]))


if __name__ == "__main__":
    unittest.main()

"""Part 8a: which functions may stand in for which."""

import unittest

from forkcells.code.functions import Function
from forkcells.code.programs import Program
from forkcells.decide.follows import follows
from forkcells.errors import InvalidFunction, InvalidOperation, TooMany
from forkcells.logic.claims import is_claim
from forkcells.pieces.kept import is_kept, is_program_kept
from forkcells.text.texts import read_claim, read_function, write_claim
from forkcells.use.contracts import (contract_questions, headings_alike, is_standing_paper, stands_in, standing_paper)
from forkcells.use.rights import with_rights
from forkcells.world.situations import Situation
from claim_makers import claimed_program
from code_samples import FILL, HALVES, TWO
from samples import odd_values, raised

TEXT = "(full a:n was o from s to t, look b:n from 0 to n | s, t | x) with (i | v) before (%s) after (%s) notes () { }"


def one(before="-", after="-", text="f" + TEXT):
    return read_function(text % (before, after))


def told(first, second):
    """The texts of the questions: kind, given claims, wanted claim."""
    return [(kind, [write_claim(claim) for claim in question.claims], write_claim(question.goal))
            for kind, question in contract_questions(first, second)]


class Headings(unittest.TestCase):
    """[8.1]"""

    def heading(self, arrays, positions="s, t", values="x"):
        return read_function("g(%s | %s | %s) with (- | -) before (-) after (-) notes () { }" % (arrays, positions, values))

    def test_alike(self):
        f = one()
        for other in (one(), f.called_as("h"), f.relabeled({"a": "b", "b": "a", "o": "s", "s": "o", "n": "x", "x": "n"}),
                      f.with_contract((read_claim("[s < t]"),), ()), with_rights(f, {"a": (("", 5), ("n", 5))}),
                      self.heading("full p:l was q from 0 to 0, look r:l from 0 to 0", "u, v", "w")):
            self.assertIs(headings_alike(f, other), True)
            self.assertIs(headings_alike(other, f), True)

    def test_each_way_in_which_they_are_not(self):
        f = one()
        for other in (self.heading("full p:l was q from 0 to 0"),
                      self.heading("full p:l was q from 0 to 0, look r:l from 0 to 0, look z:l from 0 to 0"),
                      self.heading("look r:l from 0 to 0, full p:l was q from 0 to 0"),
                      self.heading("full p:l was q from 0 to 0, full r:l was z from 0 to 0"),
                      self.heading("look p:l from 0 to 0, look r:l from 0 to 0"),
                      self.heading("full p:l was q from 0 to 0, look r:k from 0 to 0"),
                      self.heading("full p:l was q from 0 to 0, look r:l from 0 to 0", "s"),
                      self.heading("full p:l was q from 0 to 0, look r:l from 0 to 0", "s, t, u"),
                      self.heading("full p:l was q from 0 to 0, look r:l from 0 to 0", "s, t", "-"),
                      self.heading("full p:l was q from 0 to 0, look r:l from 0 to 0", "s, t", "x, y")):
            for first, second in ((f, other), (other, f)):
                self.assertIs(headings_alike(first, second), False)
                self.assertIs(stands_in(first, second), False)
                self.assertIsInstance(raised(contract_questions, first, second), InvalidOperation)
                self.assertIsInstance(raised(standing_paper, first, second), InvalidOperation)
                self.assertIsInstance(raised(is_standing_paper, first, second, None), InvalidOperation)

    def test_lengths_of_three_arrays(self):
        def lengths(words):
            arrays = ", ".join(["look %s:%s from 0 to 0" % (array, length) for array, length in zip("abc", words)])
            return self.heading(arrays)
        patterns = ("lll", "llm", "lml", "mll", "lmk")
        for first in patterns:
            for second in patterns:
                self.assertIs(headings_alike(lengths(first), lengths(second)), first == second)
        self.assertTrue(headings_alike(lengths("lml"), lengths("klk")))
        self.assertFalse(headings_alike(lengths("lml"), lengths("kkl")))

    def test_locals_do_not_count(self):
        self.assertTrue(headings_alike(one(), read_function((TEXT % ("-", "-")).join(["f", ""]).replace("(i | v)", "(- | -)"))))


class Rows(unittest.TestCase):
    """[8.2], word by word."""

    def test_three_rows(self):
        first = read_function("f(full p:l was pp from u+1 to w, look q:l from u to l | u, w | z) with (- | -) "
                              "before ([u < w] & q[u] == z) after (p[u] == pp[w] & all k (and() -> p[k] == z)) notes () { }")
        second = read_function("g(full a:n was o from s to t, look b:n from 0 to n | s, t | x) with (- | -) "
                               "before ([0 <= s] & a[s] == x) after (a[t] == o[t] & [s <= t]) notes () { }")
        self.assertEqual(told(first, second), [
            (("before", 0), ["[0 <= s]", "a[s] == x"], "[s < t]"),
            (("before", 1), ["[0 <= s]", "a[s] == x"], "b[s] == x"),
            (("right", 0), ["[0 <= s]", "a[s] == x"], "or([t <= s+1], and([s <= s+1], [t <= t]))"),
            (("right", 1), ["[0 <= s]", "a[s] == x"], "or([n <= s], and([0 <= s], [n <= n]))"),
            (("after", 0), ["[0 <= s]", "o[s] == x", "all k (or([k in 0 to s+1], [t <= k]) -> a[k] == o[k])",
                            "a[s] == o[t]", "all k (and() -> a[k] == x)"], "a[t] == o[t]"),
            (("after", 1), ["[0 <= s]", "o[s] == x", "all k (or([k in 0 to s+1], [t <= k]) -> a[k] == o[k])",
                            "a[s] == o[t]", "all k (and() -> a[k] == x)"], "[s <= t]")])
        frames = [question.frame for _, question in contract_questions(first, second)]
        self.assertEqual(frames, [second.start_frame] * 4 + [second.end_frame] * 2)

    def test_own_names_that_are_taken(self):
        first = read_function("f(full p:l was pp from 0 to l | u | -) with (- | -) before (all a (and() -> p[a] == 0)) "
                              "after (all s, k (and() -> p[s] == pp[k])) notes () { }")
        second = read_function("g(full a:k was o from s to k | s | -) with (- | -) before (all o (and() -> a[o] == 0)) "
                               "after (all kk (and() -> a[kk] == 0)) notes () { }")
        self.assertEqual(told(first, second), [
            (("before", 0), ["all o (and() -> a[o] == 0)"], "all kk (and() -> a[kk] == 0)"),
            (("right", 0), ["all o (and() -> a[o] == 0)"], "or([k <= 0], and([s <= 0], [k <= k]))"),
            (("after", 0), ["all kk (and() -> o[kk] == 0)", "all kk (or([kk in 0 to 0], [k <= kk]) -> a[kk] == o[kk])",
                            "all kk, kkk (and() -> a[kk] == o[kkk])"], "all kk (and() -> a[kk] == 0)")])

    def test_several_full_arrays(self):
        first = read_function("f(full a:n was o from 0 to i, look c:m from 0 to m, full b:m was u from i to m | i | -) "
                              "with (- | -) before (-) after (-) notes () { }")
        second = first.with_contract((), (read_claim("a[0] == o[0]"),))
        self.assertEqual(told(first, second)[3][1], ["all k (or([k in 0 to 0], [i <= k]) -> a[k] == o[k])",
                                                     "all k (or([k in 0 to i], [m <= k]) -> b[k] == u[k])"])

    def test_nothing_to_ask(self):
        bare = Function("f")
        self.assertEqual(contract_questions(bare, bare), ())
        self.assertEqual(standing_paper(bare, bare), ("stands", ()))
        self.assertIs(is_standing_paper(bare, bare, ("stands", ())), True)


class Standing(unittest.TestCase):
    def test_fewer_claims_before_and_more_after(self):
        f = one("[0 <= s] & [s <= t]", "a[s] == x")
        better = one("[0 <= s]", "a[s] == x & [s <= t]")
        self.assertIs(stands_in(better, f), True)
        self.assertIs(stands_in(f, better), False)
        self.assertIs(stands_in(one("[0 <= s]", "a[s] == x & b[s] == x"), f), True)
        self.assertIs(stands_in(f, one("[0 <= s]", "a[s] == x & b[s] == x")), False)
        self.assertIs(stands_in(one("[0 <= s]", "a[s] == x"), f), True)
        self.assertIs(stands_in(one("[0 <= t]", "a[s] == x"), f), True)
        # What the other one needs before is known in the rows of the right and of the claims after.
        self.assertIs(stands_in(one("[0 <= s]", "all k ([k in 0 to s+1] -> a[k] == x)"), f), True)
        self.assertIs(stands_in(one("-", "all k ([k in 0 to s+1] -> a[k] == x)"), one("-", "a[s] == x")), False)

    def test_rights(self):
        f = one("[s <= t]")
        self.assertTrue(stands_in(with_rights(f, {"a": (("s", 1), ("t", 0))}), f))
        self.assertFalse(stands_in(with_rights(f, {"a": (("s", -1), ("t", 0))}), f))
        # An empty right lies within each one, but here it need not be empty.
        self.assertTrue(stands_in(with_rights(f, {"a": (("t", 0), ("s", 0))}), f))
        self.assertFalse(stands_in(with_rights(f, {"a": (("t", 0), ("s", 1))}), f))
        # A narrower right tells that more stays as it was.
        stays = one("[s < t]", "a[s] == o[s]")
        self.assertTrue(stands_in(with_rights(one("[s < t]"), {"a": (("s", 1), ("t", 0))}), stays))
        self.assertFalse(stands_in(one("[s < t]"), stays))

    def test_papers(self):
        f, worse = one("[0 <= s]", "a[s] == x"), one("[0 <= t]", "a[s] == x")
        good, bad = standing_paper(f, f), standing_paper(worse, f)
        self.assertEqual((good[0], len(good[1]), bad[:2]), ("stands", 4, ("falls", 0)))
        self.assertIs(is_standing_paper(f, f, good), True)
        self.assertIs(is_standing_paper(worse, f, bad), True)
        self.assertIs(is_standing_paper(worse, f, good), False)
        self.assertIs(is_standing_paper(f, f, bad), False)
        trees = good[1]
        for value in (("stands", trees[:3]), ("stands", trees + trees[:1]), ("stands", list(trees)), ("stands", trees[1:] + trees[:1]),
                      ("stands",), ("stands", trees, 1), ("falls", trees), ["stands", trees], ("kept", trees), trees):
            self.assertIs(is_standing_paper(f, f, value), False)
        for value in (("falls", 1, bad[2]), ("falls", False, bad[2]), ("falls", -5, bad[2]), ("falls", 9, bad[2]), ("falls", 0),
                      bad + (1,), ("falls", 0, None), ("stands", 0, bad[2]), ("falls", 0, bad[2].with_number("t", 0))):
            self.assertIs(is_standing_paper(worse, f, value), False)
        large = Situation(f.start_frame, {"a": (1,) * 3000, "b": (2,) * 3000}, {"s": 10 ** 40, "t": -5}, {"x": 1})
        self.assertIs(is_standing_paper(worse, f, ("falls", 0, large)), True)
        for value in odd_values() + [("stands", value) for value in odd_values()] + [("falls", value, value) for value in odd_values()]:
            self.assertIs(is_standing_paper(worse, f, value), False)

    def test_other_broken_questions_are_accepted(self):
        worse, f = one("[0 <= t] & [1 <= t]"), one("[0 <= s]")
        found = standing_paper(worse, f)
        self.assertEqual(found[:2], ("falls", 0))
        self.assertTrue(is_standing_paper(worse, f, ("falls", 1) + found[2:]))

    def test_random_functions(self):
        """Papers are there for both answers, and no situation of runs speaks against them."""
        counts = {True: 0, False: 0}
        for seed in range(120):
            code, _ = claimed_program(seed, 0.8, True)
            f = code["leaf"]
            other, _ = claimed_program(seed + 1 - seed % 2, 0.8, True)
            g = other["leaf"].with_contract(f.before[:1] + other["leaf"].before[:1], f.after[:seed % 2])
            for first, second in ((f, g), (g, f), (f, f)):
                error = raised(stands_in, first, second)
                if error is not None:
                    self.assertIsInstance(error, TooMany)
                    continue
                found = standing_paper(first, second)
                expected = all([follows(question) for _, question in contract_questions(first, second)])
                self.assertIs(stands_in(first, second), expected)
                self.assertEqual(found[0], "stands" if expected else "falls")
                self.assertTrue(is_standing_paper(first, second, found))
                for kind, question in contract_questions(first, second):
                    self.assertTrue(is_claim(question.frame, question.goal))
                counts[expected] += 1
            self.assertTrue(raised(stands_in, f, f) is not None or stands_in(f, f))
        self.assertGreater(min(counts.values()), 30, counts)


class Errors(unittest.TestCase):
    def test_no_functions(self):
        for call in (headings_alike, contract_questions, stands_in, standing_paper, lambda *more: is_standing_paper(*more, None)):
            for value in odd_values() + [TWO]:
                self.assertIsInstance(raised(call, value, FILL), InvalidFunction)
                self.assertIsInstance(raised(call, FILL, value), InvalidFunction)
                self.assertIsInstance(raised(call, HALVES, value), InvalidFunction)

    def test_questions_that_are_too_great(self):
        """They are decided in order, until one does not follow."""
        far, low = "[999 <= s]", "[0 <= s]"
        self.assertEqual(raised(stands_in, one(far), one(low)).bound, 1000)
        self.assertEqual(raised(standing_paper, one(far), one(low)).bound, 1000)
        self.assertIs(stands_in(one(low + " & " + far), one("-")), False)
        self.assertEqual(standing_paper(one(low + " & " + far), one("-"))[:2], ("falls", 0))
        self.assertEqual(raised(stands_in, one(far + " & " + low), one("-")).bound, 1000)
        cells = "and(%s)" % ", ".join(["a[n+%d] == 0" % k for k in range(1, 20)])
        self.assertEqual(raised(stands_in, one("-", "a[0] == 0"), one("-", cells)).bound, 16)
        # Judging has no bound.
        self.assertIs(is_standing_paper(one(far), one(low), None), False)
        situation = Situation(one().start_frame, {"a": (), "b": ()}, {"s": 5, "t": 0}, {"x": 0})
        self.assertIs(is_standing_paper(one(far), one(low), ("falls", 0, situation)), True)


class Staying(unittest.TestCase):
    """[8.3]"""

    def test_each_one_stands_in_for_itself(self):
        for function in (FILL, HALVES, one("[s < t]", "a[s] == o[t]"), Function("f")):
            self.assertTrue(stands_in(function, function))
            self.assertTrue(is_standing_paper(function, function, standing_paper(function, function)))

    def test_one_after_the_other(self):
        strong, middle, weak = one("-", "a[s] == 1"), one("[s < t]", "1 <= a[s]"), one("[s+1 < t]", "0 <= a[s]")
        self.assertEqual([stands_in(strong, middle), stands_in(middle, weak), stands_in(strong, weak)], [True] * 3)
        self.assertEqual([stands_in(middle, strong), stands_in(weak, middle), stands_in(weak, strong)], [False] * 3)

    def test_other_functions_stay_kept(self):
        other = FILL.with_contract(FILL.before[:1], FILL.after + (read_claim("[0 <= s]"),))
        self.assertTrue(stands_in(other, FILL))
        self.assertTrue(is_kept(TWO.with_function(other), "halves"))
        renamed = FILL.relabeled({"a": "z", "n": "zz", "s": "p", "t": "q", "x": "w", "old": "ww"})
        self.assertTrue(stands_in(renamed, FILL))
        self.assertTrue(is_program_kept(TWO.with_function(renamed)))
        # One that may not stand in can break them.
        self.assertFalse(stands_in(FILL.with_contract(FILL.before, ()), FILL))
        self.assertFalse(is_kept(TWO.with_function(FILL.with_contract(FILL.before, ())), "halves"))

    def test_random_ones(self):
        many = 0
        for seed in range(300):
            code, _ = claimed_program(seed, 0.8, True)
            if raised(is_kept, code, "main") is not None or not is_kept(code, "main"):
                continue
            leaf = code["leaf"]
            for other in (leaf.with_contract((), leaf.after), leaf.with_contract(leaf.before[:1], leaf.after + leaf.after[:1]),
                          leaf.with_contract(leaf.before, leaf.after[:1]), leaf.with_contract(leaf.before[1:], leaf.after)):
                if raised(stands_in, other, leaf) is None and stands_in(other, leaf):
                    self.assertTrue(is_kept(code.with_function(other), "main"))
                    many += 1
        self.assertGreater(many, 20)

    def test_arguments_stay(self):
        texts = (FILL.before, FILL.after, FILL.rows, str(FILL))
        contract_questions(FILL, FILL), stands_in(FILL, FILL), standing_paper(FILL, FILL)
        self.assertEqual((FILL.before, FILL.after, FILL.rows, str(FILL)), texts)
        self.assertTrue(Program((FILL,)) == Program((FILL,)))


if __name__ == "__main__":
    unittest.main()

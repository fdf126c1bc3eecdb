"""Parts 10 and 10a: texts, written and read."""

import random
import unittest

from forkcells.base.frames import Frame
from forkcells.code.functions import Function
from forkcells.errors import InvalidClaim, InvalidFrame, InvalidFunction, InvalidSituation, ParseError
from forkcells.logic.claims import is_claim
from forkcells.text.texts import (read_claim, read_function, read_functions, read_rows, read_situation, write_claim,
                                  write_function, write_functions, write_rows, write_situation)
from forkcells.text.writer import claim_text
from forkcells.world.situations import Situation
from claim_makers import claimed_program
from code_samples import BOTH, COPY, FILL, HALVES, ONES, PAIR, SET, TWO
from naive_texts import Grammar
from samples import FRAME, LONGER, Maker, SHOWN, SIXTY, UPTO, WIDE, odd_values, raised

NUMBER = "9" * 60
EMPTY = Frame((), (), ())
MIXED = Frame((("a", "n"), ("in", "m"), ("b", "n")), ("i", "to"), ("x",))
CLAIMS = (
    "[i <= j+1]", "[-1 < 0]", "[n-12 == 7]", "a[i] < x", "a[0]+2 <= b[n-1]-3", "-5 == x+1", "0 <= 0", "not([i < j])", "and()", "or()",
    "and([i < j])", "or(x < y, and(or(), a[i] == 0), not(not(x <= 0)))", "all k ([k in 0 to i] -> a[k] <= x)",
    "all k, j (and([k in i+1 to n], [j in k to k], or(), [k == j]) -> not(a[k] < a[j]+1))",
    "all k, k (not([z in 0 to 1]) -> or())", "not(all k (x < y -> x < y))",
    # Names like the words of the texts.
    "all < x", "all[i] < all", "not <= not+1", "not[0]-1 == and", "or < and", "and[or] == or[and]", "in[to] < in",
    "all all (all < all -> all[all] == 0)", "all in, to ([in in in to to] -> in[in] < to)", "all in ([in < to] -> x < y)", "[in <= to]",
    "all all, all ([all in all to all] -> and(all == all))", "full < from", "x < else", "[while == fork-3]")
ROWS = (
    "", "i := j+1", "x = a[i]", "a[i+1] = x-1", "i := -1; x = -1; a[-1] = -1", "if x == 0 { a[i] = x } else { }", "if [i < j] { } else { i := 0 }",
    "while and() { }", "while a[i] < 0 { i := i+1; while [i < 0] { } }", "fork f(- | - | -)", "fork f(a, b | i+1 | x, 3), g(a | - | -)",
    "fork f(- | -1, 0 | -2)", "fork f(a | - | a[i]-1); fork g(- | - | -), g(- | - | -)",
    # Names like the words.
    "if := if; while := 0", "if = x; while = if; fork = fork[0]", "if[0] = 1; fork[fork] = -1", "fork fork(fork | fork | fork)",
    "if if < else { } else { else := if }", "while while == 0 { fork fork(- | - | -) }", "if all < x { } else { }",
    "if all k (and() -> x < y) { } else { }", "while all[0] < x { }", "if not < if { if := else } else { else = if }",
    "while or() { while or() { while or() { while or() { x = 1; while or() { } } } } }",
    "if or() { if or() { if or() { if or() { x = 1 } else { y = 2 } } else { } } else { } } else { }")
FUNCTIONS = (
    "f(- | - | -) with (- | -) before (-) after (-) notes () { }",
    "fill(full a:n was o from 0 to i+1, look b:n from i to n | i | x) with (k | -) before ([i < n] & x < 1) after (-) "
    "notes (a[0] == o[0] & and(); -) { while and() { while or() { } } }",
    "set(full p:l was pp from g to g+1 | g | y) with (- | -) before (-) after (-) notes () { p[g] = y }",
    "full(look full:look from from to to | from, to | was) with (with, before | after) before ([from <= to]) after (was < 0) "
    "notes (-) { while full[from] < was { with := before-1 } }",
    "f(- | - | -) with (- | i, j) before (-1 < 0) after (all k (and() -> 0 < 1)) notes (-; -1 < i; -) "
    "{ while or() { }; while or() { }; while or() { i = j } }")


def wrong(call, *told):
    """Where a text is wrong, or None."""
    error = raised(call, *told)
    assert error is None or isinstance(error, (ParseError, InvalidFunction, InvalidSituation)), repr(error)
    return error.index if isinstance(error, ParseError) else None


class Examples(unittest.TestCase):
    def test_document(self):
        self.assertEqual(write_function(SET),
                         "set(full p:l was pp from g to g+1 | g | y) with (- | -) before (-) after (-) notes () { p[g] = y }")
        self.assertEqual(
            [read_function(write_function(PAIR)) == PAIR, read_claim("not(a[i+1]-2 <= 7)"),
             read_claim("all k ([k in 0 to i-1] -> a[k] == x)")[2], read_rows("i := n-1; if x == 0 { a[i] = x } else { }")],
            [True, ("not", ("val", "<=", ("a", "i", 1, -2), ("", 7))), ("in", "k", ("", 0), ("i", -1)),
             (("move", "i", ("n", -1)), ("if", ("val", "==", ("x", 0), ("", 0)), (("write", "a", "i", 0, ("x", 0)),), ()))])
        self.assertEqual(write_rows(PAIR.rows), "fork set(a | 0 | 1), set(a | i+1 | 2)")
        self.assertIsInstance(raised(read_claim, "[k in 0 to 7]"), ParseError)
        self.assertEqual(wrong(read_claim, "[k in 0 to 7]"), 3)


class ThereAndBack(unittest.TestCase):
    """[10.5]"""

    def test_texts(self):
        for texts, read, write in ((CLAIMS, read_claim, write_claim), (ROWS, read_rows, write_rows),
                                   (FUNCTIONS, read_function, write_function)):
            for text in texts:
                self.assertEqual(write(read(text)), text)
        text = "\n".join(FUNCTIONS)
        self.assertEqual(write_functions(read_functions(text)), text)
        self.assertEqual([write_functions((read_function(one),)) for one in FUNCTIONS], list(FUNCTIONS))
        self.assertEqual(len({read_claim(text) for text in CLAIMS}), len(CLAIMS))
        self.assertEqual(len({read_rows(text) for text in ROWS}), len(ROWS))

    def test_what_they_are(self):
        self.assertEqual(read_claim("all k, j ([k in i+1 to n] -> a[k] < x)"),
                         ("all", ("k", "j"), ("in", "k", ("i", 1), ("n", 0)), ("val", "<", ("a", "k", 0, 0), ("x", 0))))
        self.assertEqual(read_claim("[-3 == n]"), ("pos", "==", ("", -3), ("n", 0)))
        self.assertEqual(read_claim("and(or(), 5 <= a[0]+2)"),
                         ("and", (("or", ()), ("val", "<=", ("", 5), ("a", "", 0, 2)))))
        self.assertEqual(read_rows("i := j+1; x = a[i]; a[i] = x; while or() { }; fork f(a, b | i+1 | x, 3), g(a | - | -)"), (
            ("move", "i", ("j", 1)), ("keep", "x", ("a", "i", 0, 0)), ("write", "a", "i", 0, ("x", 0)), ("while", ("or", ()), ()),
            ("fork", (("f", ("a", "b"), (("i", 1),), (("x", 0), ("", 3))), ("g", ("a",), (), ())))))
        self.assertEqual(read_function(FUNCTIONS[1]), Function(
            "fill", arrays=(("full", "a", "n", "o", ("", 0), ("i", 1)), ("look", "b", "n", ("i", 0), ("n", 0))), positions=("i",),
            values=("x",), places=("k",), rows=(("while", ("and", ()), (("while", ("or", ()), ()),)),),
            notes=((("val", "==", ("a", "", 0, 0), ("o", "", 0, 0)), ("and", ())), ()),
            before=(("pos", "<", ("i", 0), ("n", 0)), ("val", "<", ("x", 0), ("", 1)))))

    def test_random_claims(self):
        for frame in (FRAME, WIDE):
            maker = Maker(frame, 5)
            for _ in range(400):
                claim = maker.claim()
                text = write_claim(claim)
                self.assertEqual(read_claim(text), claim)
                self.assertEqual(write_claim(read_claim(text)), text)

    def test_random_functions(self):
        for seed in range(150):
            code, _ = claimed_program(seed, 0.5, seed % 3 == 0)
            for function in code:
                text = write_function(function)
                self.assertEqual(read_function(text), function)
                self.assertEqual(read_rows(write_rows(function.rows)), function.rows)
            text = write_functions(code.functions)
            self.assertEqual(text.count("\n"), len(code) - 1)
            self.assertEqual(read_functions(text), code.functions)
        for function in (FILL, HALVES, COPY, SET, PAIR):
            self.assertEqual(read_function(write_function(function)), function)

    def test_numbers(self):
        for text in ("x+%s < -%s" % (NUMBER, NUMBER), "a[i-%s] == %s" % (NUMBER, NUMBER), "[0 < n+%s]" % NUMBER):
            self.assertEqual(write_claim(read_claim(text)), text)
        self.assertEqual(read_claim("%s < -%s" % (NUMBER, NUMBER)), ("val", "<", ("", SIXTY), ("", -SIXTY)))
        self.assertEqual(wrong(read_claim, "x+9%s < 0" % NUMBER), 62)
        self.assertEqual(wrong(read_claim, "9%s < 0" % NUMBER), 60)
        self.assertEqual(wrong(read_claim, "-9%s < 0" % NUMBER), 61)
        for text, index in (("01 < 0", 1), ("-0 < 0", 1), ("x+0 < 0", 2), ("x-0 < 0", 2), ("x+01 < 0", 2), ("a[i+0] < 0", 4), ("00 < 0", 1),
                            ("--1 < 0", 1), ("+1 < 0", 0), ("x+-1 < 0", 2), ("x+1+1 < 0", 3), ("1+1 < 0", 1), ("x++1 < 0", 2)):
            self.assertEqual(wrong(read_claim, text), index)
        # Other functions than those of the package take them nevertheless.
        rows = "x = %s" % NUMBER
        self.assertEqual(write_rows(read_rows(rows)), rows)
        self.assertEqual(read_function("f(- | - | -) with (- | x) before (-) after (-) notes () { x = %s }" % NUMBER[:40]).rows[0][2],
                         ("", 10 ** 40 - 1))
        error = raised(read_function, "f(- | - | -) with (- | x) before (-) after (-) notes () { x = %s }" % NUMBER[:41])
        self.assertIsInstance(error, InvalidFunction)


class Wrong(unittest.TestCase):
    """Where a text is wrong, held against the forms of the document by trying all ways."""

    def check(self, text, read, form):
        grammar = Grammar(text)
        expected = grammar.index(getattr(grammar, form))
        self.assertEqual(wrong(read, text), expected, text)
        return expected

    def changed(self, text, rng, many):
        """The text cut off at each place, and with other signs at some places."""
        signs = " ()[]{}|&;:,=<>-+0195aiknowz\nA"
        found = [text[:k] for k in range(len(text) + 1)]
        for _ in range(many):
            k = rng.randrange(len(text) + 1)
            sign = rng.choice(signs)
            found.append(text[:k] + sign + text[k + rng.randrange(2):])
            found.append(text[:k] + text[k + 1:])
            other = rng.randrange(len(text) + 1)
            found.append(text[:k] + text[other:other + rng.randrange(6)] + text[k:])
        return found

    def test_each_place(self):
        rng = random.Random(3)
        for texts, read, form, many in ((CLAIMS, read_claim, "top", 60), (ROWS, read_rows, "rows", 60),
                                        (FUNCTIONS, read_functions, "functions", 80)):
            good = 0
            for text in texts:
                for other in self.changed(text, rng, many):
                    good += self.check(other, read, form) is None
            self.assertGreater(good, len(texts) * 3)

    def test_each_sign_at_each_place(self):
        signs = " ()[{|&;:,=<-+01afk"
        for text, read, form in (("all k ([k in i to 1] -> a[k] < x+1)", read_claim, "top"),
                                 ("if or() { fork f(a | - | -1) } else { }", read_rows, "rows")):
            for k in range(len(text)):
                for sign in signs:
                    self.check(text[:k] + sign + text[k + 1:], read, form)
                    self.check(text[:k] + sign + text[k:], read, form)

    def test_names(self):
        self.assertEqual(wrong(read_claim, "abcdefgh < x"), None)
        self.assertEqual(wrong(read_claim, "abcdefghi < x"), 8)
        self.assertEqual(wrong(read_rows, "abcdefghi := 0"), 8)
        self.assertEqual(wrong(read_claim, "[abcdefghi < x]"), 9)
        for text, index in (("Ab < x", 0), ("aB < x", 1), ("", 0), (" x < y", 0), ("x  < y", 2), ("x <  y", 4), ("x < y ", 5), ("x <y", 3),
                            ("x < y\n", 5), ("x > y", 2), ("x = y", 3), ("x != y", 2)):
            self.assertEqual(wrong(read_claim, text), index, text)

    def test_own_names(self):
        self.assertEqual(wrong(read_claim, "all k, j, m (or() -> or())"), 8)
        self.assertEqual(wrong(read_claim, "all (or() -> or())"), 4)
        # No all in an all, and what an "in" says ahead of the arrow alone.
        self.assertEqual(wrong(read_claim, "all k (all j (or() -> or()) -> or())"), 11)
        self.assertEqual(wrong(read_claim, "all k (or() -> all j (or() -> or()))"), 19)
        self.assertEqual(wrong(read_claim, "all k (or() -> [k in 0 to 1])"), 18)
        self.assertEqual(wrong(read_claim, "all k ([k+1 in 0 to 1] -> or())"), 12)
        self.assertEqual(wrong(read_claim, "all k ([3 in 0 to 1] -> or())"), 10)
        self.assertIsNone(wrong(read_claim, "all k (not(and([z in 0 to 1])) -> or())"))

    def test_twelve_deep(self):
        for many, inner, index in ((11, "x < y", None), (12, "x < y", 47), (11, "and()", None), (11, "and(x < y)", 48), (10, "and(x < y)", None),
                                   (11, "or(or())", 47), (11, "not(or())", 47), (11, "all k (or() -> or())", 48), (10, "all k (or() -> or())", None),
                                   (10, "all k (not(or()) -> or())", 50), (10, "all k (or() -> not(or()))", 58), (11, "not < x", None),
                                   (11, "all < x", None), (11, "all[0] < x", None), (10, "all k (and(or()) -> or())", 51)):
            text = "not(" * many + inner + ")" * many
            self.assertEqual(wrong(read_claim, text), index, inner)
            self.check(text, read_claim, "top")
        # Within a condition and a claim of a function likewise.
        deep = "not(" * 12
        self.assertEqual(wrong(read_rows, "while " + deep), 6 + 47)
        self.assertEqual(wrong(read_function, "f(- | - | -) with (- | -) before (" + deep), 34 + 47)

    def test_four_deep(self):
        def rows(many):
            return "while or() { " * many + "x = 1" + " }" * many
        self.assertIsNone(wrong(read_rows, rows(4)))
        self.assertEqual(wrong(read_rows, rows(5)), 5 * len("while or() { "))
        self.assertIsNone(wrong(read_rows, "while or() { " * 4 + "while or() { }" + " }" * 4))
        for many in (4, 5, 6):
            self.check(rows(many), read_rows, "rows")
            self.check("f(- | - | -) with (- | -) before (-) after (-) notes () { " + rows(many) + " }", read_functions, "functions")

    def test_no_strings(self):
        for value in odd_values():
            for call in (read_claim, read_rows, read_function, read_functions, lambda text: read_situation(FRAME, text)):
                if not isinstance(value, str):
                    error = raised(call, value)
                    self.assertIsInstance(error, ParseError)
                    self.assertIsNone(error.index)
                elif value != "" or call != read_rows:
                    error = raised(call, value)
                    self.assertIsInstance(error, ParseError)
                    self.assertLessEqual(error.index, len(value))

    def test_functions_that_are_none(self):
        for text in ("f(- | i | i) with (- | -) before (-) after (-) notes () { }",
                     "f(- | - | -) with (- | -) before (-) after (-) notes (-) { }",
                     "f(- | - | -) with (- | -) before ([i < j]) after (-) notes () { }",
                     "f(- | - | -) with (- | -) before (-) after (-) notes () { x = 1 }",
                     "f(- | a, b, c, d, e | -) with (- | -) before (-) after (-) notes () { }",
                     "f(look a:l from 0 to 0, look b:l from 0 to 0, look c:l from 0 to 0, look d:l from 0 to 0 | - | -) with (- | -) before (-) "
                     "after (-) notes () { }",
                     "f(- | - | -) with (- | -) before (-) after (-) notes () { fork g(- | - | -), g(- | - | -), g(- | - | -), g(- | - | -) }",
                     "f(- | - | -) with (- | x) before (-) after (-) notes () { %s }" % "; ".join(["x = 1"] * 25),
                     "f(- | - | -) with (- | x) before (-) after (-) notes () { if all k (and() -> or()) { } else { } }",
                     "f(- | - | -) with (- | -) before (all k, k (or() -> or())) after (-) notes () { }"):
            self.assertIsInstance(raised(read_function, text), InvalidFunction, text)
            self.assertIsInstance(raised(read_functions, FUNCTIONS[0] + "\n" + text), InvalidFunction)
            # All of the text is read first.
            self.assertEqual(wrong(read_functions, text + "\n"), len(text) + 1)
            self.assertEqual(wrong(read_functions, text + "x"), len(text))
            self.assertEqual(wrong(read_function, text + "\n"), len(text))
        # Functions with one name can be read; they make no program.
        self.assertEqual(len(read_functions(FUNCTIONS[0] + "\n" + FUNCTIONS[0])), 2)

    def test_long_texts(self):
        parts = ", ".join(["x < y"] * 14000)
        text = "and(%s)" % parts
        self.assertEqual(write_claim(read_claim(text)), text)
        self.assertEqual(wrong(read_claim, text[:-1]), len(text) - 1)
        rows = "; ".join(["i := i+1"] * 9000)
        self.assertEqual(write_rows(read_rows(rows)), rows)
        self.assertEqual(len(read_rows("fork " + ", ".join(["f(- | - | -)"] * 7000))[0][1]), 7000)
        for sign in ("(", "[", "-", "x", "0", " ", "not(", "and(", "all k (", "while or() { ", "fork f(", "{ ", "f("):
            for call in (read_claim, read_rows, read_functions):
                self.assertIsInstance(raised(call, (sign * 100000)[:100000]), ParseError)


JUNK = (True, None, "", "A", "toolonger", "pos", "in", 10 ** 60, -1, (), ("i",), ("i", 0), ("i", True), ("i", 0, 0), ("a", "i", 0, 0), [], {},
        ("or", ()), ("in", "k", ("", 0), ("", 1)), ("all", ("k",), ("or", ()), ("or", ())), ("move", "i", ("", 0)), ("f", (), (), ()))


def near(value):
    """All values that differ from a nested tuple in one place."""
    if not isinstance(value, tuple):
        return
    for k in range(len(value)):
        yield value[:k] + value[k + 1:]
        yield value[:k] + value[k:k + 1] + value[k:]
        for junk in JUNK:
            yield value[:k] + (junk,) + value[k + 1:]
        for other in near(value[k]):
            yield value[:k] + (other,) + value[k + 1:]
    for junk in JUNK:
        yield value + (junk,)


def alike(one, other):
    """Whether two values are equal, with True apart from 1."""
    if isinstance(one, tuple) and isinstance(other, tuple) and len(one) == len(other):
        return all([alike(one[k], other[k]) for k in range(len(one))])
    return type(one) is type(other) and not isinstance(one, tuple) and one == other


class Writing(unittest.TestCase):
    def test_only_what_can_be_read_back(self):
        """What differs from a form in one place is rejected, or has the form itself and is read back."""
        for texts, read, write, error in ((CLAIMS, read_claim, write_claim, InvalidClaim), (ROWS, read_rows, write_rows, InvalidFunction)):
            good = bad = 0
            for text in texts:
                for value in near(read(text)):
                    found = raised(write, value)
                    if found is None:
                        self.assertTrue(alike(read(write(value)), value), value)
                        good += 1
                    else:
                        self.assertIsInstance(found, error, value)
                        bad += 1
            self.assertGreater(min(good, bad), 500)

    def test_depths(self):
        """Each way deeper counts, in what is written and in what is read."""
        ways = (lambda claim: ("not", claim), lambda claim: ("and", (claim,)), lambda claim: ("or", (("or", ()), claim)),
                lambda claim: ("and", (claim, ("or", ()))))
        guards = (lambda claim: ("all", ("k",), claim, ("or", ())), lambda claim: ("all", ("k",), ("or", ()), claim))
        for inner in (("or", ()), ("pos", "<", ("i", 0), ("j", 0)), ("val", "<", ("x", 0), ("y", 0))):
            for way in ways:
                for guard in ((lambda claim: claim,) + guards + tuple([lambda claim, one=one: ("or", (one(claim),)) for one in guards])):
                    for many in range(8, 13):
                        claim = inner
                        for _ in range(many):
                            claim = way(claim)
                        claim = guard(claim)
                        deep = self.depth(claim)
                        self.assertEqual(raised(write_claim, claim) is None, deep <= 12)
                        text = claim_text(claim)
                        expected = Grammar(text)
                        index = expected.index(expected.top)
                        self.assertEqual(wrong(read_claim, text), index)
                        self.assertEqual(index is None, deep <= 12)

    def depth(self, claim):
        if claim[0] == "not":
            return 1 + self.depth(claim[1])
        if claim[0] in ("and", "or"):
            return 1 + max([0] + [self.depth(part) for part in claim[1]])
        return 1 if claim[0] in ("pos", "val") else 1 + max(self.depth(claim[2]), self.depth(claim[3]))

    def test_branches_that_are_deep(self):
        for words in (("while or() { ", " }"), ("if or() { ", " } else { }"), ("if or() { } else { ", " }")):
            for many in (4, 5):
                text = words[0] * many + "x = 1" + words[1] * many
                grammar = Grammar(text)
                self.assertEqual(wrong(read_rows, text), grammar.index(grammar.rows))
                self.assertEqual(wrong(read_rows, text) is None, many == 4)

    def test_a_minus_ahead_of_a_number(self):
        for head, index in (("f(", 3), ("f(- | ", 7), ("f(- | - | ", 11), ("f(- | - | -) with (", 20), ("f(- | - | -) with (- | ", 24)):
            self.assertEqual(wrong(read_functions, head + "-1"), index)
        self.assertEqual(wrong(read_rows, "fork f(-1"), 8)
        self.assertIsNone(wrong(read_rows, "fork f(- | -1 | -1)"))

    def test_claims_that_are_none(self):
        for value in odd_values() + [
                ("pos", "<=", ("i", 0), ("j", LONGER)), ("pos", "<=", ("i", 0), ("toolonger", 0)), ("pos", "=", ("i", 0), ("j", 0)),
                ("pos", "<=", ("i", True), ("j", 0)), ("val", "<", ("a", "i", 0), ("x", 0)), ("val", "<", ("", "i", 0, 0), ("x", 0)),
                ("val", "<", ("a", "i", 0, LONGER), ("x", 0)), ("in", "k", ("", 0), ("", 1)), ("not",), ("not", ("or", ()), 1), ("and",),
                ("and", [("or", ())]), ("and", (("or", ()),), 1), ("all", (), ("or", ()), ("or", ())), ("all", ("k", "j", "m"), ("or", ()), ("or", ())),
                ("all", ["k"], ("or", ()), ("or", ())), ("all", ("",), ("or", ()), ("or", ())), ("all", ("k",), ("or", ())),
                ("all", ("k",), ("or", ()), ("in", "k", ("", 0), ("", 1))), ("all", ("k",), ("all", ("j",), ("or", ()), ("or", ())), ("or", ())),
                ("all", ("k",), ("in", "K", ("", 0), ("", 1)), ("or", ())), ["or", ()], ("pos", "<", ("i", 0)), ("val", "<", ("x", 0), ("y", 0), 0)]:
            self.assertIsInstance(raised(write_claim, value), InvalidClaim, value)
        deep = ("or", ())
        for many in range(12):
            self.assertEqual(read_claim(write_claim(deep)), deep)
            deep = ("not", deep)
        self.assertIsInstance(raised(write_claim, deep), InvalidClaim)

    def test_rows_that_are_none(self):
        good = ("move", "i", ("j", 1))
        for value in odd_values() + [good, [good], (good, None), (("move", "i", ("j", LONGER)),), (("move", "I", ("j", 0)),),
                                     (("move", "i", ("j", 0), 1),), (("keep", "v", ("a", "i", 0)),), (("write", "a", "i", 0),),
                                     (("write", "a", "i", True, ("x", 0)),), (("if", ("or", ()), ()),), (("if", ("or", ()), (), None),),
                                     (("while", ("in", "k", ("", 0), ("", 0)), ()),), (("while", ("or", ()), [],),), (("fork", ()),),
                                     (("fork", (("f", (), ()),)),), (("fork", (("f", (), (), (), ()),)),), (("fork", (("F", (), (), ()),)),),
                                     (("fork", (("f", ("A",), (), ()),)),), (("fork", (("f", (), (("x", 0, 0),), ()),)),),
                                     (("fork", (("f", (), (), ["x"]),)),), (("fork", [("f", (), (), ())]),), (("jump", 1),)]:
            if value != ():
                self.assertIsInstance(raised(write_rows, value), InvalidFunction, value)
        self.assertEqual(write_rows(()), "")
        rows = (good,)
        for many in range(4):
            rows = (("while", ("or", ()), rows),)
            self.assertEqual(read_rows(write_rows(rows)), rows)
        self.assertIsInstance(raised(write_rows, (("while", ("or", ()), rows),)), InvalidFunction)

    def test_functions_that_are_none(self):
        for value in odd_values() + [TWO, (FILL,), [FILL], "fill"]:
            self.assertIsInstance(raised(write_function, value), InvalidFunction)
        for value in odd_values() + [FILL, [FILL], (FILL, None), (FILL, "fill"), TWO]:
            self.assertIsInstance(raised(write_functions, value), InvalidFunction)
        self.assertEqual(write_functions((FILL, FILL)), write_function(FILL) + "\n" + write_function(FILL))

    def test_any_claims(self):
        """Claims for no frame at all have texts, too."""
        for text in CLAIMS:
            self.assertIn(is_claim(FRAME, read_claim(text)), (True, False))
        self.assertTrue(is_claim(FRAME, read_claim(write_claim(UPTO))))


class Situations(unittest.TestCase):
    def test_there_and_back(self):
        for situation in (SHOWN, ONES, Situation(EMPTY, {}, {}, {}), Situation(FRAME, {"a": ()}, {"i": -1, "j": 0}, {"x": SIXTY}),
                          Situation(MIXED, {"a": (), "in": (1, -2, 0), "b": ()}, {"i": 3, "to": -4}, {"x": 0}),
                          Situation(MIXED, {"a": (-SIXTY,), "in": (), "b": (5,)}, {"i": 3, "to": -4}, {"x": 0})):
            text = write_situation(situation)
            self.assertEqual(text, str(situation))
            self.assertEqual(read_situation(situation.frame, text), situation)
        self.assertEqual(write_situation(SHOWN), "a=4 0 7 | i=2 j=2 | x=5")
        self.assertEqual(write_situation(Situation(EMPTY, {}, {}, {})), "- | - | -")
        maker = Maker(WIDE, 9)
        for _ in range(100):
            situation = maker.situation()
            self.assertEqual(read_situation(WIDE, write_situation(situation)), situation)

    def test_each_place(self):
        rng = random.Random(8)
        signs = " |=-0159abinotx"
        for frame, text in ((FRAME, "a=4 0 -7 | i=2 j=-2 | x=5"), (MIXED, "a=- in=1 -2 b=- | i=0 to=10 | x=0"), (MIXED, "a=1 in=- b=2 | i=0 to=10 | x=0"),
                            (EMPTY, "- | - | -"), (Frame((), ("i",), ()), "- | i=1 | -")):
            self.assertIsNone(wrong(read_situation, frame, text))
            changed = [text[:k] for k in range(len(text) + 1)]
            changed += [text[:k] + sign + text[k + more:] for k in range(len(text) + 1) for sign in signs for more in (0, 1)]
            changed += ["".join(rng.sample(text, len(text))) for _ in range(30)] + [text + " ", " " + text]
            for other in changed:
                grammar = Grammar(other)
                self.assertEqual(wrong(read_situation, frame, other), grammar.index(grammar.situation(frame)), other)

    def test_wrong_values(self):
        for value in odd_values():
            if value != FRAME:
                self.assertIsInstance(raised(read_situation, value, None), InvalidFrame)
            if value != SHOWN:
                self.assertIsInstance(raised(write_situation, value), InvalidSituation)
        # Names of another frame, and another order.
        self.assertEqual(wrong(read_situation, FRAME, "b=1 | i=1 j=1 | x=1"), 0)
        self.assertEqual(wrong(read_situation, FRAME, "a=1 | j=1 i=1 | x=1"), 6)
        self.assertEqual(wrong(read_situation, FRAME, "a=1 | i=1 | x=1"), 10)
        self.assertEqual(wrong(read_situation, MIXED, "a=- b=- in=- | i=1 to=1 | x=1"), 4)

    def test_unlike_lengths(self):
        self.assertIsInstance(raised(read_situation, MIXED, "a=1 in=- b=- | i=0 to=0 | x=0"), InvalidSituation)
        self.assertIsInstance(raised(read_situation, MIXED, "a=1 2 in=7 b=1 | i=0 to=0 | x=0"), InvalidSituation)
        # What is no text of one comes first.
        self.assertEqual(wrong(read_situation, MIXED, "a=1 in=- b=- | i=0 to=0 | x="), 28)

    def test_numbers(self):
        text = "a=%s -%s | i=%s j=0 | x=-%s" % (NUMBER, NUMBER, NUMBER, NUMBER)
        self.assertEqual(write_situation(read_situation(FRAME, text)), text)
        self.assertEqual(wrong(read_situation, FRAME, "a=9%s | i=0 j=0 | x=0" % NUMBER), 62)
        self.assertEqual(wrong(read_situation, FRAME, "a=1 | i=9%s j=0 | x=0" % NUMBER), 68)
        # Longer integers can be written, and are not read back.
        longer = Situation(FRAME, {"a": (SIXTY,)}, {"i": 0, "j": 0}, {"x": 0})
        self.assertEqual(write_situation(longer), "a=%s | i=0 j=0 | x=0" % NUMBER)
        many = "a=%s | i=0 j=0 | x=0" % " ".join(["-12"] * 20000)
        self.assertEqual(len(read_situation(FRAME, many)), 20000)


class OneText(unittest.TestCase):
    def test_unlike_values_have_unlike_texts(self):
        seen = {}
        for seed in range(60):
            for function in claimed_program(seed, 0.5)[0]:
                text = write_function(function)
                self.assertTrue(seen.setdefault(text, function) == function)
        self.assertGreater(len(seen), 100)

    def test_arguments_stay(self):
        before = (str(BOTH), FILL.rows, str(SHOWN))
        write_functions(TWO.functions), write_rows(FILL.rows), write_situation(SHOWN), write_claim(UPTO)
        self.assertEqual((str(BOTH), FILL.rows, str(SHOWN)), before)


if __name__ == "__main__":
    unittest.main()

"""Parts 7 and 7a: kept programs, and papers of them."""

import unittest

from forkcells.code.functions import Function
from forkcells.code.programs import Program
from forkcells.decide.follows import follows
from forkcells.errors import InvalidOperation, InvalidProgram, TooMany, UnknownName
from forkcells.order.races import first_race, is_free, races_at
from forkcells.order.schedules import run_along
from forkcells.pieces.kept import (broken_questions, is_kept, is_kept_paper, is_orderless, is_program_kept, kept_paper,
                                   kinds_broken)
from forkcells.pieces.pieces import pieces
from forkcells.runs.outcomes import first_break, outcome
from forkcells.runs.runs import Run
from forkcells.solve.trees import Closing, is_tree
from forkcells.text.texts import read_claim, read_functions
from forkcells.world.situations import Situation
from claim_makers import claimed_program
from code_samples import FILL, HALVES, LOOSE, NOUGHTS, OVER, PARTS, TWO, TWOCELLS
from samples import odd_values, raised
from test_pieces import SKIP, program
from test_runs import function, put

# Copies a part of b into a, and calls itself the way a program of three branches does.
COPY = ("copy(full a:n was aa from s to t, look b:n from s to t | s, t | -) with (i | -) "
        "before ([0 <= s] & [s <= t] & [t <= n]) after (all k ([k in s to t] -> a[k] == b[k])) "
        "notes (all k ([k in s to i] -> a[k] == b[k]) & [s <= i] & [i <= t] & and([0 <= s], [t <= n])) "
        "{ i := s; while [i < t] { a[i] = b[i]; i := i+1 } }")
MAIN = ("main(full a:n was aa from 0 to n, look b:n from 0 to n | h, g | -) with (- | -) "
        "before ([0 <= h] & [h <= g] & [g <= n]) after (all k ([k in 0 to n] -> a[k] == b[k])) notes () "
        "{ fork copy(a, b | 0, h | -), copy(a, b | h, g | -), copy(a, b | g, n | -) }")
# Three arrays, two loops, ifs, and a fork of three calls.
PARTED = ("part(full a:n was aa from s to t, full b:n was bb from s to t, look c:n from s to t | s, t | x) with (i, j | v) "
          "before (and([0 <= s], [s <= t], [t <= n])) "
          "after (all k ([k in s to t] -> or(and(c[k] < x, a[k] == c[k]), and(x <= c[k], b[k] == c[k])))) "
          "notes (all k ([k in s to i] -> or(x <= c[k], a[k] == c[k])) & and([0 <= s], [s <= i], [i <= t], [t <= n], [j == s]); "
          "all k ([k in s to t] -> or(x <= c[k], a[k] == c[k])) & and([0 <= s], [s <= j], [j <= t], [t <= n]) "
          "& all k ([k in s to j] -> or(c[k] < x, b[k] == c[k]))) "
          "{ i := s; j := s; while [i < t] { v = c[i]; if v < x { a[i] = v } else { }; i := i+1 }; "
          "while [j < t] { if c[j] < x { } else { b[j] = c[j] }; j := j+1 } }")
PARTS_OF = ("main(full a:n was aa from 0 to n, full b:n was bb from 0 to n, look c:n from 0 to n | h, g | x) with (- | -) "
            "before (and([0 <= h], [h <= g], [g <= n])) "
            "after (all k ([k in 0 to n] -> or(and(c[k] < x, a[k] == c[k]), and(x <= c[k], b[k] == c[k])))) notes () "
            "{ fork part(a, b, c | 0, h | x), part(a, b, c | h, g | x), part(a, b, c | g, n | x) }")
# A claim before about a cell that is not in the right.
BESIDE = ("f(full a:n was o from 0 to n | - | -) with (- | -) before ([2 == n] & a[1] == 0) after (-) notes () "
          "{ fork g(a | 0 | -), h(a | 1 | -) }\n"
          "g(full p:l was pp from t to t+1 | t | -) with (- | -) before (and([0 <= t], [t < l]) & p[1] == 0) "
          "after (p[t] == 7) notes () { p[t] = 7 }\n"
          "h(full p:l was pp from t to t+1 | t | -) with (- | -) before (and([0 <= t], [t < l]) & p[1] == 0) "
          "after (p[t] == 8) notes () { p[t] = 8 }")


class Examples(unittest.TestCase):
    def test_document(self):
        self.assertEqual([is_program_kept(TWO), kept_paper(TWO)[0], broken_questions(TWO, "halves"), kinds_broken(TWO)],
                         [True, "kept", (), {"fill": (), "halves": ()}])
        self.assertEqual([is_kept(LOOSE, "fill"), kinds_broken(LOOSE), broken_questions(LOOSE, "halves"),
                          is_orderless(LOOSE, "halves")],
                         [True, {"fill": (), "halves": ("apart", "before", "within")}, ((0, 0), (0, 2), (0, 3)), False])
        self.assertEqual([kept_paper(LOOSE)[:3], is_kept_paper(LOOSE, kept_paper(LOOSE)), is_kept_paper(LOOSE, kept_paper(TWO))],
                         [("broken", "halves", 0), True, False])


class Kinds(unittest.TestCase):
    """Programs that are broken in one kind alone."""

    def kinds(self, text):
        code = program(text)
        found = kinds_broken(code)
        self.assertEqual(list(found), list(code.names))
        for called in code.names:
            asked = [piece.questions() for piece in pieces(code, called)]
            broken = [(p, q) for p in range(len(asked)) for q in range(len(asked[p])) if not follows(asked[p][q][1])]
            self.assertEqual(broken_questions(code, called), tuple(broken))
            self.assertEqual(found[called], tuple(sorted({asked[p][q][0][0] for p, q in broken})))
            self.assertIs(is_kept(code, called), broken == [])
            rights = [pair for pair in broken if asked[pair[0]][pair[1]][0][0] in ("within", "apart")]
            self.assertIs(is_orderless(code, called), rights == [])
        kept = all([words == () for words in found.values()])
        self.assertIs(is_program_kept(code), kept)
        paper = kept_paper(code)
        self.assertEqual(paper[0], "kept" if kept else "broken")
        self.assertIs(is_kept_paper(code, paper), True)
        return found[code.names[0]]

    def leaf(self, before="-", after="-", rows="{ }"):
        return ("\nleaf(full p:l was pp from g to g+1 | g | -) with (- | -) before (%s) after (%s) notes () %s"
                % (before, after, rows))

    def one(self, rows, before="-", after="-", notes="", right="0 to n"):
        return ("f(full a:n was o from %s | i | x) with (p | v) before (%s) after (%s) notes (%s) %s"
                % (right, before, after, notes, rows))

    def test_each_kind(self):
        inside = "and([0 <= i], [i < n])"
        self.assertEqual(self.kinds(self.one("{ a[i] = x }", inside)), ())
        self.assertEqual(self.kinds(self.one("{ a[i] = x }")), ("inside",))
        self.assertEqual(self.kinds(self.one("{ a[i] = x }", inside, right="0 to i")), ("inside",))
        self.assertEqual(self.kinds(self.one("{ a[i] = x }", inside, "a[i] == x")), ())
        self.assertEqual(self.kinds(self.one("{ a[i] = x }", inside, "a[i] == x+1")), ("after",))
        self.assertEqual(self.kinds(self.one("{ while [p < i] { p := p+1 } }", "[0 <= i]", notes="[p <= i]")), ())
        self.assertEqual(self.kinds(self.one("{ while [p < i] { p := p+1 } }", notes="[p <= i]")), ("note",))
        self.assertEqual(self.kinds(self.one("{ fork leaf(a | i | -) }", inside) + self.leaf()), ())
        self.assertEqual(self.kinds(self.one("{ fork leaf(a | i | -) }", "[0 <= i]") + self.leaf()), ("within",))
        self.assertEqual(self.kinds(self.one("{ fork leaf(a | i | -), leaf(a | 0 | -) }", inside) + self.leaf()), ("apart",))
        self.assertEqual(self.kinds(self.one("{ fork leaf(a | i | -) }", inside) + self.leaf("[1 <= g]")), ("before",))

    def test_several_kinds(self):
        text = self.one("{ fork leaf(a | i | -), leaf(a | 0 | -); a[i] = x; while [p < i] { p := p+2 } }", after="a[0] == 5",
                        notes="[p <= i]")
        self.assertEqual(self.kinds(text + self.leaf("[2 <= g]")),
                         ("after", "apart", "before", "inside", "note", "within"))

    def test_orderless_and_broken(self):
        code = program(self.one("{ fork leaf(a | i | -); a[0] = 1 }", "and([0 <= i], [i < n])", "a[0] == 2") + self.leaf())
        self.assertTrue(is_orderless(code, "f"))
        self.assertFalse(is_kept(code, "f"))
        # Only the function itself is asked for; the other one has no fork.
        self.assertEqual(broken_questions(code, "f"), ((0, 2),))
        self.assertTrue(is_kept(code, "leaf"))

    def test_larger_programs(self):
        for text in (COPY, MAIN + "\n" + COPY, PARTED, PARTS_OF + "\n" + PARTED, BESIDE):
            code = program(text)
            found = kept_paper(code)
            self.assertEqual(found[0], "kept", kinds_broken(code))
            self.assertTrue(is_kept_paper(code, found))
            for called in found[1]:
                for piece, trees in zip(pieces(code, called), found[1][called]):
                    for (_, question), tree in zip(piece.questions(), trees):
                        self.assertTrue(is_tree(question, tree))
                        self.assertLessEqual(len(tree), 5000)


class Papers(unittest.TestCase):
    def test_trees_that_are_changed(self):
        found = kept_paper(TWO)
        self.assertEqual(list(found[1]), ["fill", "halves"])
        fill, halves = found[1]["fill"], found[1]["halves"]

        def judged(trees):
            return is_kept_paper(TWO, ("kept", trees))
        self.assertIs(judged({"halves": halves, "fill": fill}), True)
        self.assertIs(judged({"fill": fill}), False)
        self.assertIs(judged({"fill": fill, "halves": halves, "other": halves}), False)
        self.assertIs(judged({"fill": fill, "other": halves}), False)
        self.assertIs(judged({"fill": fill, "halves": fill}), False)
        self.assertIs(judged({"fill": fill[:2], "halves": halves}), False)
        self.assertIs(judged({"fill": fill + fill[:1], "halves": halves}), False)
        self.assertIs(judged({"fill": (fill[1], fill[0], fill[2]), "halves": halves}), False)
        self.assertIs(judged({"fill": (fill[0][1:],) + fill[1:], "halves": halves}), False)
        self.assertIs(judged({"fill": (fill[0] + fill[0][:1],) + fill[1:], "halves": halves}), False)
        self.assertIs(judged({"fill": (fill[0][::-1],) + fill[1:], "halves": halves}), False)
        self.assertIs(judged({"fill": list(fill), "halves": halves}), False)
        self.assertIs(judged({"fill": (list(fill[0]),) + fill[1:], "halves": halves}), False)
        self.assertIs(judged([("fill", fill), ("halves", halves)]), False)
        self.assertIs(is_kept_paper(TWO, ("kept", found[1], 1)), False)
        self.assertIs(is_kept_paper(TWO, ["kept", found[1]]), False)

    def test_papers_from_elsewhere(self):
        """Other trees than the ones that are returned."""
        found = kept_paper(TWO)
        halves = found[1]["halves"]
        # A node that adds nothing of use stands ahead of the tree.
        question = pieces(TWO, "halves")[0].questions()[0][1]
        closing = Closing(question)
        closing.part(len(question.facts) - 1, 0)
        closing.part(len(question.facts) - 1, 1)
        closing.cases(len(question.facts) + 1)
        closing.ring(((len(question.facts) + 2, 0),))
        closing.ring(((2, 0), (len(question.facts) + 2, 0)))
        self.assertNotEqual(closing.tree, halves[0][0])
        self.assertTrue(is_tree(question, closing.tree))
        other = ((closing.tree,) + halves[0][1:],)
        self.assertTrue(is_kept_paper(TWO, ("kept", {**found[1], "halves": other})))

    def test_broken_ones(self):
        found = kept_paper(LOOSE)
        _, called, piece, index, situation = found
        self.assertEqual(found[:4], ("broken", "halves", 0, 0))
        self.assertTrue(is_kept_paper(LOOSE, found))
        question = pieces(LOOSE, "halves")[0].questions()[0][1]
        self.assertLessEqual(situation.lengths["m"], question.few)
        for other in (("broken", "fill", 0, 0, situation), ("broken", "halves", 0, 1, situation), ("broken", "halves", 1, 0, situation),
                      ("broken", "halves", 0, -8, situation), ("broken", "halves", False, 0, situation),
                      ("broken", "halves", 0, 99, situation), ("broken", "none", 0, 0, situation), ("broken", None, 0, 0, situation),
                      ("broken", "halves", 0, 0, None), ("broken", "halves", 0, 0, NOUGHTS), found + (1,), found[:4],
                      ("kept",) + found[1:], list(found)):
            self.assertIs(is_kept_paper(LOOSE, other), False, other)
        # Another question, another cell, a large situation.
        self.assertTrue(is_kept_paper(LOOSE, ("broken", "halves", 0, 3, situation)))
        self.assertTrue(is_kept_paper(LOOSE, found[:4] + (situation.with_cell("wa", 0, 99),)) if situation.lengths["m"] else True)
        frame = pieces(LOOSE, "halves")[0].frame
        large = Situation(frame, {array: (7,) * 2000 for array, _ in frame.arrays}, {"h": 2000}, {})
        self.assertTrue(is_kept_paper(LOOSE, found[:4] + (large,)))
        self.assertFalse(is_kept_paper(LOOSE, found[:4] + (large.with_number("h", 1999),)))

    def test_every_value(self):
        for value in odd_values() + [("kept", value) for value in odd_values()] + [("broken",) + (value,) * 4 for value in odd_values()]:
            self.assertIs(is_kept_paper(TWO, value), False)
            self.assertIs(is_kept_paper(LOOSE, value), False)
        for value in odd_values():
            self.assertIs(is_kept_paper(TWO, ("kept", {"fill": value, "halves": value})), False)
            self.assertIs(is_kept_paper(LOOSE, ("broken", "halves", 0, 0, value)), False)

    def test_exactly_one_of_two(self):
        """Random programs have a paper of one of the two kinds, and it is one."""
        counts = {"kept": 0, "broken": 0}
        for seed in range(250):
            code, _ = claimed_program(seed, 0.7, seed % 3 == 0)
            found = raised(kept_paper, code)
            if found is not None:
                self.assertIsInstance(found, (TooMany, InvalidOperation))
                continue
            found = kept_paper(code)
            counts[found[0]] += 1
            self.assertIs(is_kept_paper(code, found), True)
            self.assertIs(is_program_kept(code), found[0] == "kept")
        self.assertGreater(counts["broken"], 100, counts)


class Errors(unittest.TestCase):
    def test_first_errors(self):
        for value in odd_values():
            for call in (is_program_kept, kinds_broken, kept_paper, lambda program: is_kept_paper(program, None)):
                self.assertIsInstance(raised(call, value), InvalidProgram)
            for call in (is_kept, broken_questions, is_orderless):
                self.assertIsInstance(raised(call, value, None), InvalidProgram)
                self.assertIsInstance(raised(call, TWO, value), UnknownName)

    def test_pieces_come_ahead_of_questions(self):
        """All errors about pieces come first, by the names of the functions."""
        far = function("b", put(0, 1), before=(("pos", "<=", ("", 999), ("n", 0)),))
        writes = function("c", *((put(0, 1),) * 5))
        many = function("d", *((SKIP,) * 7))
        code = Program((many, far, writes))
        for call in (is_program_kept, kinds_broken, kept_paper, lambda program: is_kept_paper(program, None)):
            self.assertEqual(raised(call, code).bound, 4)
            self.assertEqual(raised(call, Program((many, far))).bound, 64)
        for call in (is_program_kept, kinds_broken, kept_paper):
            self.assertEqual(raised(call, Program((far,))).bound, 1000)
        self.assertIs(is_kept_paper(Program((far,)), None), False)
        # One function alone is asked for.
        self.assertEqual(raised(is_kept, code, "b").bound, 1000)
        self.assertEqual(raised(is_orderless, code, "c").bound, 4)
        self.assertIs(is_orderless(code, "b"), True)

    def test_a_question_behind_a_broken_one(self):
        cells = ("and", tuple([("val", "==", ("a", "n", k, 0), ("", 0)) for k in range(20)]))
        f = function("f", put(0, 1), ("if", cells, (), ()))
        code = Program((function("a", put(0, 1)), f, function("z", put(0, 1), before=(("pos", "<=", ("", 999), ("n", 0)),))))
        for call in (is_program_kept, kinds_broken, kept_paper):
            self.assertEqual(raised(call, code).bound, 16)
        for call in (is_kept, broken_questions):
            self.assertEqual(raised(call, code, "f").bound, 16)
        self.assertIs(is_kept(code, "a"), False)
        # Papers can be judged nevertheless.
        question = pieces(code, "f")[0].questions()[0][1]
        empty = Situation(question.frame, {array: () for array, _ in question.frame.arrays}, {}, {})
        self.assertIs(is_kept_paper(code, ("broken", "f", 0, 0, empty)), True)
        self.assertIs(is_kept_paper(code, ("broken", "f", 0, 1, empty)), False)

    def test_orderless_looks_at_its_kinds_alone(self):
        far = ("if", ("pos", "<=", ("", 999), ("n", 0)), (), ())
        code = program("f(full a:n was o from 0 to n | - | -) with (- | -) before (-) after (a[999] == 0) notes () "
                       "{ fork g(a | - | -) }\ng(full b:m was u from 0 to m | - | -) with (- | -) before (-) after (-) notes () { }")
        self.assertIs(is_orderless(code, "f"), True)
        self.assertEqual(raised(is_kept, code, "f").bound, 1000)
        ahead = code.with_function(code["f"].with_rows((far,) + code["f"].rows, ()))
        self.assertEqual(raised(is_orderless, ahead, "f").bound, 1000)


class Guarantee(unittest.TestCase):
    """[0.21], [0.22], [4.8], [7.3]"""

    def beginnings(self, code, called, most=4):
        """All small situations with its claims before, some of those with many numbers."""
        frame = code[called].start_frame
        found = []
        numbers = range(-1, most + 1)
        choices = [{}]
        for word in frame.positions:
            choices = [{**one, word: number} for one in choices for number in numbers]
        for many in range(most + 1):
            for shift, positions in enumerate(choices):
                rows = {array: tuple([(3 * k + 5 * len(array) + shift) % 4 for k in range(many)]) for array, _ in frame.arrays}
                situation = Situation(frame, rows, positions, {word: 2 for word in frame.amounts})
                if all([situation.holds(claim) for claim in code[called].before]):
                    found.append(situation)
        return found

    def check(self, code, called, situation):
        self.assertIsNone(first_break(code, called, situation))
        least = Run(code, called, situation)
        least.go_on()
        self.assertTrue(least.is_done())
        expected = least.end
        for viewing in (False, True):
            for careless in (False, True):
                run = Run(code, called, situation, viewing=viewing, careless=careless)
                while run.active:
                    # The greatest path, and then the one in the middle.
                    run.go(run.active[-1] if len(run) % 2 else run.active[len(run.active) // 2])
                    self.assertEqual(run.stuck, ())
                self.assertEqual((run.end, len(run)), (expected, len(least)))
        self.assertTrue(is_free(code, called, situation))
        for told in code[called].arrays:
            row, end = situation.rows[told[1]], expected.rows[told[1]]
            low, high = [situation.position_at(term) for term in told[-2:]]
            changed = [k for k in range(len(row)) if row[k] != end[k]]
            self.assertTrue(told[0] == "full" and all([low <= k < high for k in changed]) or changed == [])

    def test_kept_programs(self):
        many = 0
        for text in (COPY, MAIN + "\n" + COPY, PARTED, PARTS_OF + "\n" + PARTED, BESIDE):
            code = program(text)
            for called in code.names:
                for situation in self.beginnings(code, called, 3):
                    self.check(code, called, situation)
                    many += 1
        for called in ("fill", "halves"):
            for situation in self.beginnings(TWO, called):
                self.check(TWO, called, situation)
                many += 1
        self.assertGreater(many, 150)

    def test_only_cells_in_rights_are_changed(self):
        situation = Situation(FILL.start_frame, {"a": (5, 6, 7, 8)}, {"s": 1, "t": 3}, {"x": 0})
        self.assertEqual(outcome(TWO, "fill", situation)[1].rows["a"], (5, 0, 0, 8))

    def test_without_a_race(self):
        situation = Situation(HALVES.start_frame, {"b": (1, 2)}, {"h": 1}, {})
        self.assertIsNone(first_race(TWO, "halves", situation))

    def test_kept_random_programs(self):
        """Programs with random claims that are kept have runs without breaks."""
        many = 0
        for seed in range(600):
            code, maker = claimed_program(seed, 0.8, seed % 2 == 0)
            for called in code.names:
                if raised(is_kept, code, called) is not None:
                    continue
                needed = Program(tuple([code[name] for name in code.needed(called)]))
                if raised(is_program_kept, needed) is not None or not is_program_kept(needed):
                    continue
                for _ in range(3):
                    situation = maker.beginning(code[called], 4)
                    if all([situation.holds(claim) for claim in code[called].before]):
                        self.assertIsNone(first_break(code, called, situation, most=60))
                        many += 1
        self.assertGreater(many, 100)

    def test_orderless_forks(self):
        """[7a]: a fork of a function that is orderless hands over no rights that meet."""
        spread = LOOSE["halves"]
        self.assertFalse(is_orderless(LOOSE, "halves"))
        situation = Situation(spread.start_frame, {"b": (1, 2)}, {"h": 1}, {})
        self.assertEqual(outcome(LOOSE, "halves", situation)[1][0][3], ("meet", 0, 0, 1, 0))


class Hanging(unittest.TestCase):
    """[7.4]"""

    def test_other_rows_of_a_forked_function(self):
        other = FILL.with_rows((), ()).with_contract(FILL.before, FILL.after)
        changed = TWO.with_function(other)
        self.assertTrue(is_kept(changed, "halves"))
        self.assertFalse(is_kept(changed, "fill"))
        # With another contract it can be broken.
        self.assertFalse(is_kept(TWO.with_function(FILL.with_contract(FILL.before, ())), "halves"))

    def test_other_names(self):
        for code in (TWO, LOOSE):
            renamed = code.renamed({"fill": "zz", "halves": "aa"})
            self.assertEqual(broken_questions(renamed, "aa"), broken_questions(code, "halves"))
            self.assertEqual(is_kept(renamed, "zz"), is_kept(code, "fill"))
            names = {"a": "k", "n": "i", "s": "wa", "t": "wb", "x": "old", "i": "kk", "old": "q"}
            relabeled = code.with_function(code["fill"].relabeled(names))
            self.assertEqual([broken_questions(relabeled, called) for called in ("fill", "halves")],
                             [broken_questions(code, called) for called in ("fill", "halves")])
            relabeled = code.with_function(code["halves"].relabeled({"b": "wa", "m": "wc", "h": "k", "was": "kk"}))
            self.assertEqual(broken_questions(relabeled, "halves"), broken_questions(code, "halves"))

    def test_further_functions_and_fewer(self):
        self.assertTrue(is_program_kept(Program((FILL,))))
        more = TWO.with_function(function("more", put(5, 1)))
        self.assertEqual(kinds_broken(more), {"fill": (), "halves": (), "more": ("inside",)})

    def test_other_orders_of_calls(self):
        for parts, expected in ((PARTS[::-1], True), (OVER[::-1], False)):
            changed = TWO.with_function(HALVES.with_rows((("fork", parts),), ()))
            self.assertIs(is_kept(changed, "halves"), expected)


class FalseSentences(unittest.TestCase):
    """[0.23] and [7.5]: an example for each of the claims that are told to be false."""

    def test_a_fork_of_kept_functions_is_kept(self):
        bare = HALVES.with_contract((), ())
        self.assertFalse(is_kept(TWO.with_function(bare), "halves"))

    def test_a_broken_program_has_a_run_that_goes_wrong(self):
        code = program("f(full a:n was o from 0 to n | - | -) with (p | -) before (-) after (-) notes (-) "
                       "{ while [p < 0] { a[n] = 1 } }")
        self.assertEqual(kinds_broken(code), {"f": ("inside",)})
        for many in range(4):
            for content in range(3):
                situation = Situation(code["f"].start_frame, {"a": (content,) * many}, {}, {})
                self.assertIsNone(first_break(code, "f", situation))

    def test_a_fork_of_two_branches_as_two_forks(self):
        """A claim before may speak of a cell outside of the right; and two forks cannot be exchanged."""
        code = program(BESIDE)
        self.assertTrue(is_program_kept(code))
        calls = code["f"].rows[0][1]
        for order, expected in ((calls, True), (calls[::-1], False)):
            split = code["f"].with_rows(tuple([("fork", (call,)) for call in order]), ())
            self.assertIs(is_kept(code.with_function(split), "f"), expected)

    def test_two_forks_as_one(self):
        calls = (("g", ("a",), (("", 0),), ()), ("g", ("a",), (("", 0),), ()))
        code = program(BESIDE)
        two = code["f"].with_rows((("fork", calls[:1]), ("fork", calls[1:])), ())
        self.assertTrue(is_kept(code.with_function(two), "f"))
        self.assertFalse(is_kept(code.with_function(code["f"].with_rows((("fork", calls),), ())), "f"))

    def test_more_notes(self):
        more = FILL.with_notes(0, FILL.notes[0][:3] + (read_claim("[i == s]"),))
        self.assertFalse(is_kept(TWO.with_function(more), "fill"))

    def test_rights_that_meet_lead_to_unlike_ends(self):
        from forkcells.order.schedules import ends
        leaf = ("g(full p:l was pp from 0 to l | - | -) with (- | -) before ([1 == l]) after (-) notes () { p[0] = 1 }")
        code = program("f(full a:n was o from 0 to n | - | -) with (- | -) before ([1 == n]) after (-) notes () "
                       "{ fork g(a | - | -), g(a | - | -) }\n" + leaf)
        situation = Situation(code["f"].start_frame, {"a": (0,)}, {}, {})
        self.assertEqual(kinds_broken(code)["f"], ("apart",))
        # All orders end alike, though there is a race.
        self.assertEqual(len(ends(code, "f", situation)), 1)
        self.assertIsNotNone(first_race(code, "f", situation))

    def test_a_function_sees_what_stands_outside_of_its_rights(self):
        code = program("f(full a:n was o from 0 to n | - | -) with (- | -) before ([2 == n]) after (-) notes () "
                       "{ fork g(a | - | -), h(a | - | -) }\n"
                       "g(full p:l was pp from 0 to 1 | - | -) with (- | -) before ([2 == l]) after (p[1] == pp[1]) notes () "
                       "{ p[0] = 1 }\n"
                       "h(full p:l was pp from 1 to 2 | - | -) with (- | -) before ([2 == l]) after (-) notes () { p[1] = 1 }")
        self.assertTrue(is_program_kept(code))
        situation = Situation(code["f"].start_frame, {"a": (0, 0)}, {}, {})
        run = run_along(code, "f", situation, ((), (1,)))
        self.assertEqual((run.places["a"][1], run.sight((0,)).cell("p", 1)), (1, 0))

    def test_a_look_right_may_meet_a_full_one(self):
        """Also if nobody writes there, a fork of both is stuck."""
        code = program("f(full a:n was o from 0 to n | - | -) with (- | -) before (-) after (-) notes () "
                       "{ fork g(a | - | -), h(a | - | -) }\n"
                       "g(full p:l was pp from 0 to l | - | -) with (- | -) before (-) after (-) notes () { }\n"
                       "h(look p:l from 0 to l | - | -) with (- | -) before (-) after (-) notes () { }")
        self.assertEqual(kinds_broken(code)["f"], ("apart",))
        situation = Situation(code["f"].start_frame, {"a": (0,)}, {}, {})
        self.assertEqual(outcome(code, "f", situation)[1][0][3], ("meet", 0, 0, 1, 0))

    def test_a_careless_run_that_ends_in_one_order_alone(self):
        code = program("f(full a:n was o from 0 to n | - | -) with (- | -) before (-) after (-) notes () "
                       "{ fork g(a | - | -), h(a | - | -) }\n"
                       "g(full p:l was pp from 0 to l | - | -) with (- | -) before (-) after (-) notes () { p[0] = 1 }\n"
                       "h(full p:l was pp from 0 to l | - | -) with (- | -) before (-) after (-) notes (-) "
                       "{ if p[0] == 0 { while [0 <= 0] { } } else { } }")
        situation = Situation(code["f"].start_frame, {"a": (0,)}, {}, {})
        self.assertTrue(run_along(code, "f", situation, ((), (0,), (1,))).is_done())
        run = run_along(code, "f", situation, ((), (1,)))
        run.go_on(most=50)
        self.assertFalse(run.is_over())

    def test_all_orders_of_kept_ones_end_alike(self):
        self.assertEqual(races_at(Run(TWOCELLS, "two", NOUGHTS)), ())


if __name__ == "__main__":
    unittest.main()

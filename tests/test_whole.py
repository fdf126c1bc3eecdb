"""What holds over the whole program: other names, other orders, and one program told in all ways."""

import itertools
import unittest

from forkcells.code.programs import Program
from forkcells.decide.follows import follows
from forkcells.desk.desk import Desk
from forkcells.errors import InvalidOperation, TooMany
from forkcells.order.races import is_free
from forkcells.order.schedules import ends, schedules
from forkcells.order.traces import forms
from forkcells.pieces.kept import broken_questions, is_kept_paper, is_orderless, is_program_kept, kept_paper, kinds_broken
from forkcells.pieces.pieces import pieces
from forkcells.runs.outcomes import first_break, outcome
from forkcells.runs.runs import Run
from forkcells.text.shell import Shell
from forkcells.text.texts import read_functions, write_function, write_functions
from forkcells.use.contracts import contract_questions, stands_in
from forkcells.world.situations import Situation
from claim_makers import claimed_program
from code_samples import LOOSE, TWO
from samples import raised
from test_kept import COPY, MAIN, PARTED, PARTS_OF
from test_pieces import program

# Other names for all that stand in the programs of the makers.
LETTERS = "abcdefghijklmnopqrstuvwxyz"


def other_names(function):
    """Other names for all names of a function, some of them like own names of its claims."""
    words = ["k", "kk", "q", "wa", "wb", "x", "n", "a", "i", "z", "zz", "y", "v", "if", "all", "to", "in", "fork", "not", "was", "full",
             "s", "t", "h", "j", "m", "aa", "bb", "cc", "dd"]
    frame = function.frame
    names = [array for array, _ in frame.arrays] + list(frame.lengths + frame.positions + frame.amounts)
    return dict(zip(names, words))


def relabeled(code):
    """The program with other names of all functions and of all that is in them."""
    made = Program(tuple([function.relabeled(other_names(function)) for function in code]))
    return made.renamed({called: LETTERS[-1 - k] * 3 for k, called in enumerate(code.names)})


def carried_over(situation, function, names):
    """The same situation for the function with other names."""
    frame = function.start_frame
    rows = {names[array]: row for array, row in situation.rows.items()}
    return Situation(frame, rows, {names[word]: number for word, number in situation.positions.items()},
                     {names[word]: number for word, number in situation.amounts.items()})


def turned(code):
    """The program with the calls of all forks the other way round."""
    def rows_of(rows):
        made = []
        for row in rows:
            if row[0] == "fork":
                row = ("fork", row[1][::-1])
            elif row[0] in ("if", "while"):
                row = row[:2] + tuple([rows_of(part) for part in row[2:]])
            made.append(row)
        return tuple(made)
    return Program(tuple([function.with_rows(rows_of(function.rows), function.notes) for function in code]))


def deciding(call, *more):
    """What a call returns, or the bound of its error."""
    error = raised(call, *more)
    if error is not None:
        assert isinstance(error, (TooMany, InvalidOperation)), error
        return type(error).__name__
    return call(*more)


class OtherNames(unittest.TestCase):
    def test_pieces_and_papers(self):
        """[7.4], also where own names have to be replaced."""
        many = 0
        for seed in range(120):
            code, _ = claimed_program(seed, 0.6, seed % 2 == 0)
            other = relabeled(code)
            for one, two in zip(code.names, [LETTERS[-1 - k] * 3 for k in range(len(code))]):
                for call in (is_orderless, broken_questions):
                    self.assertEqual(deciding(call, code, one), deciding(call, other, two))
                if raised(pieces, code, one) is None:
                    for left, right in zip(pieces(code, one), pieces(other, two)):
                        self.assertEqual((left.start, left.stop, left.answers, left.trail),
                                         (right.start, right.stop, right.answers, right.trail))
                        self.assertEqual([kind for kind, _ in left.questions()], [kind for kind, _ in right.questions()])
                        self.assertEqual([len(question) for _, question in left.questions()],
                                         [len(question) for _, question in right.questions()])
                        many += 1
        self.assertGreater(many, 200)

    def test_runs(self):
        for seed in range(100):
            code, maker = claimed_program(seed, 0.7, seed % 2 == 0)
            other = relabeled(code)
            called = LETTERS[-1 - code.names.index("main")] * 3
            names = other_names(code["main"])
            for _ in range(3):
                situation = maker.beginning(code["main"], 4)
                same = carried_over(situation, other[called], names)
                one, two = outcome(code, "main", situation), outcome(other, called, same)
                self.assertEqual((one[0], one[-1]), (two[0], two[-1]))
                if one[0] == "done":
                    self.assertEqual({names[array]: row for array, row in one[1].rows.items()}, two[1].rows)
                left, right = first_break(code, "main", situation), first_break(other, called, same)
                self.assertEqual(left is None, right is None)
                if left is not None:
                    self.assertEqual(left[:2], right[:2])

    def test_standing_in(self):
        for seed in range(60):
            code, _ = claimed_program(seed, 0.6, True)
            for function in code:
                other = function.relabeled(other_names(function))
                for one, two in ((function, other), (other, function)):
                    self.assertIn(deciding(stands_in, one, two), (True, "TooMany"))
                    self.assertEqual(len(contract_questions(one, two)), len(contract_questions(function, function)))


class OtherOrders(unittest.TestCase):
    """[0.21], [0.22]"""

    def test_orders_of_calls(self):
        many = 0
        for seed in range(150):
            code, maker = claimed_program(seed, 0.5, True)
            other = turned(code)
            for called in code.names:
                self.assertEqual(deciding(is_orderless, code, called), deciding(is_orderless, other, called))
            for _ in range(2):
                situation = maker.beginning(code["main"], 4)
                one, two = outcome(code, "main", situation), outcome(other, "main", situation)
                self.assertEqual(one[0], two[0])
                if one[0] == "done":
                    self.assertEqual(one, two)
                    many += 1
        self.assertGreater(many, 30)

    def test_orders_of_steps(self):
        """At forks whose rights lie within and apart all orders lead to the same."""
        many = 0
        for seed in range(200):
            code, maker = claimed_program(seed, 0.5, True)
            situation = maker.beginning(code["main"], 4)
            least = Run(code, "main", situation)
            if least.go_on(most=40) == 40:
                continue
            for viewing in (False, True):
                run = Run(code, "main", situation, viewing=viewing)
                while run.active:
                    run.go(maker.rng.choice(run.active))
                self.assertEqual((run.stuck, run.end, len(run)), (least.stuck, least.end, len(least)))
            many += 1
        self.assertGreater(many, 100)

    def test_all_orders_of_a_kept_program(self):
        code = program(THREE_CELLS)
        self.assertTrue(is_program_kept(code))
        situation = Situation(code["f"].start_frame, {"a": (5, 6, 7)}, {}, {})
        self.assertEqual(len(list(schedules(code, "f", situation))), 6)
        self.assertEqual((len(ends(code, "f", situation)), len(forms(code, "f", situation)), is_free(code, "f", situation)), (1, 1, True))
        for order in itertools.permutations(range(3)):
            run = Run(code, "f", situation)
            run.go(())
            for branch in order:
                run.go((branch,))
            self.assertEqual((str(run.end), run.is_done()), ("a=1 1 1 o=5 6 7 | - | -", True))


THREE_CELLS = ("f(full a:n was o from 0 to n | - | -) with (- | -) before ([3 == n]) after (-) notes () "
             "{ fork g(a | 0 | -), g(a | 1 | -), g(a | 2 | -) }\n"
             "g(full p:l was pp from t to t+1 | t | -) with (- | -) before (and([0 <= t], [t < l])) after (p[t] == 1) notes () { p[t] = 1 }")


class OneProgram(unittest.TestCase):
    """Told alike by its text, a desk, a shell, its pieces, its paper and its runs."""

    def check(self, code):
        text = write_functions(code.functions)
        self.assertEqual(Program(read_functions(text)), code)
        desk, shell = Desk(), Shell()
        error = raised(desk.put, code.functions)
        answer = shell("put " + text)
        if error is not None:
            self.assertEqual(answer, "many %d" % error.bound if isinstance(error, TooMany) else "cannot")
            return None
        self.assertTrue(shell.desk() == desk)
        self.assertEqual(answer, "; ".join(["%s %s" % pair for pair in sorted(desk.verdicts.items())]))
        for called in code.names:
            self.assertEqual(shell("show " + called), write_function(code[called]))
            verdict = desk.verdicts[called]
            self.assertIs(verdict != "unordered", is_orderless(code, called))
            broken = deciding(broken_questions, code, called)
            if not isinstance(broken, str):
                self.assertIs(verdict == "kept", broken == ())
                self.assertEqual(shell("broken " + called), "; ".join(["%d %d" % pair for pair in broken]) or "none")
                made = pieces(code, called)
                self.assertEqual(broken, tuple([(p, q) for p in range(len(made)) for q in range(len(made[p].questions()))
                                                if not follows(made[p].questions()[q][1])]))
        if raised(kept_paper, code) is None:
            paper = kept_paper(code)
            self.assertTrue(is_kept_paper(code, paper))
            self.assertIs(paper[0] == "kept", set(desk.verdicts.values()) == {"kept"})
            self.assertIs(paper[0] == "kept", set(kinds_broken(code).values()) == {()})
        return desk

    def test_programs(self):
        for code in (TWO, LOOSE, program(COPY), program(MAIN + "\n" + COPY), program(PARTED), program(PARTS_OF + "\n" + PARTED)):
            self.assertIsNotNone(self.check(code))

    def test_random_programs(self):
        for seed in range(60):
            code, maker = claimed_program(seed, 0.6, seed % 2 == 0)
            desk = self.check(code)
            if desk is None:
                continue
            situation = maker.beginning(code["main"], 4)
            shell = Shell()
            shell("put " + write_functions(code.functions))
            answer = shell("run main " + str(situation))
            self.assertEqual(answer.split()[0], outcome(desk.whole(), "main", situation)[0])
            if set(desk.verdicts.values()) == {"kept"} and all([situation.holds(claim) for claim in code["main"].before]):
                self.assertNotEqual(answer.split()[0], "stuck")


if __name__ == "__main__":
    unittest.main()

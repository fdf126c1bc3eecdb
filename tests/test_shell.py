"""Part 10b: a shell."""

import unittest

from forkcells.code.functions import Function
from forkcells.desk.desk import Desk
from forkcells.runs.outcomes import outcome
from forkcells.text.shell import Shell
from forkcells.text.texts import read_functions, write_function, write_functions
from forkcells.world.situations import Situation
from claim_makers import claimed_program
from code_samples import FILL, HALVES, LOOSE, ONES, PAIR, SET, TWO
from samples import odd_values, raised
from test_pieces import SKIP
from test_runs import fork, function, put

TEXTS = {called: write_function(TWO[called]) for called in TWO.names}
BOTH = "put " + write_functions(TWO.functions)
SPREAD = write_function(LOOSE["halves"])
BARE = "f(- | - | -) with (- | -) before (-) after (-) notes () { }"


def shell_of(*commands):
    shell = Shell()
    for command in commands:
        shell(command)
    return shell


class Examples(unittest.TestCase):
    def test_document(self):
        shell, text = Shell(), write_function(SET)
        self.assertEqual(
            [shell("put " + text), shell("show set") == text, shell("demand kept set"),
             shell("put " + text.replace("before (-)", "before ([0 <= g] & [g < l])")), shell("demand kept set")],
            ["set broken", True, "refused kept set", "set kept", "none"])
        self.assertEqual(
            [shell("run set p=1 1 | g=1 | y=5"), shell("run set p=1 | g=1 | y=5"), shell("run set p=1 | g=01 | y=5"), shell("run old p=1"),
             shell("broken set"), shell("put " + text), shell("take set")],
            ["done p=1 5 pp=1 1 | g=1 | y=5", "stuck - set 0 outside p", "text 9", "unknown old", "none", "refused kept set",
             "refused kept set"])
        self.assertEqual(
            [shell("waive kept set"), shell("take set"), shell("undo"), shell("put set()"), shell("undo 9"), shell("names now"), len(shell),
             str(shell)],
            ["none", "set -", "set kept", "text 4", "nothing 9", "what", 10, "shell of 10 commands"])


class Commands(unittest.TestCase):
    """Each command of the table."""

    def answers(self, shell, *pairs):
        for command, expected in pairs:
            many = len(shell)
            self.assertEqual(shell(command), expected, command)
            self.assertEqual(len(shell), many + 1)

    def test_changes(self):
        shell = Shell()
        self.answers(shell, (BOTH, "fill kept; halves kept"), (BOTH, "none"), ("demand kept halves", "none"),
                     ("demand forks halves fill", "none"), ("demand stands fill fill", "none"), ("demand orderless fill", "none"),
                     ("claims", "kept halves; forks halves fill; stands fill fill; orderless fill"), ("waive kept halves", "none"),
                     ("put " + SPREAD, "halves unordered"), ("undo", "halves kept"), ("redo", "halves unordered"),
                     ("undo 2", "halves kept"), ("claims", "kept halves; forks halves fill; stands fill fill; orderless fill"),
                     ("redo 2", "halves unordered"), ("undo 0", "none"), ("redo 0", "none"), ("waive forks halves fill", "none"),
                     ("take halves", "halves -"), ("names", "fill"), ("undo 10", "fill -"), ("names", "none"), ("verdicts", "none"),
                     ("claims", "none"), ("redo 3", "fill kept; halves kept"))

    def test_looking(self):
        shell = shell_of(BOTH, "put " + BARE)
        self.answers(shell, ("names", "f; fill; halves"), ("verdicts", "f kept; fill kept; halves kept"), ("claims", "none"),
                     ("show fill", TEXTS["fill"]), ("show halves", TEXTS["halves"]), ("callers fill", "halves"), ("callers halves", "none"),
                     ("broken halves", "none"), ("stands fill fill", "yes"), ("stands fill halves", "no"), ("stands halves fill", "no"))
        self.assertEqual(read_functions(shell("show fill")), (FILL,))

    def test_callers(self):
        calls = Function("more", arrays=HALVES.arrays, positions=HALVES.positions, rows=HALVES.rows)
        shell = shell_of(BOTH, "put " + write_function(calls))
        self.answers(shell, ("callers fill", "halves; more"))

    def test_broken(self):
        shell = shell_of("put " + TEXTS["fill"] + "\n" + SPREAD)
        self.answers(shell, ("broken halves", "0 0; 0 2; 0 3"), ("broken fill", "none"), ("verdicts", "fill kept; halves unordered"))

    def test_runs(self):
        pair = "put " + write_functions((PAIR, SET))
        shell = shell_of(pair)
        self.answers(shell, ("run pair a=1 1 1 | i=0 | -", "done a=1 2 1 aa=1 1 1 | i=0 | -"),
                     ("run pair a=1 1 1 | i=-1 | -", "stuck - pair 0 meet 0 0 1 0"), ("run pair a=1 1 1 | i=2 | -", "stuck - pair 0 within 1 0"),
                     ("run pair a=- | i=0 | -", "stuck - pair 0 within 0 0"), ("run set p=- | g=-1 | y=7", "stuck - set 0 outside p"))
        narrow = write_function(SET).replace("from g to g+1", "from 0 to 0")
        self.answers(shell, ("put " + narrow, "pair kept"), ("run set p=1 1 | g=0 | y=7", "stuck - set 0 right p"),
                     ("run pair a=1 1 1 | i=0 | -", "stuck 0 set 0 right p; 1 set 0 right p"))
        endless = "while and() { }"
        self.answers(shell, ("put " + BARE.replace("notes ()", "notes (-)").replace("{ }", "{ %s }" % endless), "f kept"), ("run f - | - | -", "long"))

    def test_a_hundred_steps(self):
        loop = "f(- | - | -) with (p | -) before (-) after (-) notes (-) { while [p < %d] { p := p+1 } }"
        for many, expected in ((49, "done - | - | -"), (50, "long")):
            shell = shell_of("put " + loop % many)
            self.assertEqual(shell("run f - | - | -"), expected)
            self.assertEqual(outcome(shell.desk().whole(), "f", Situation(shell.desk()["f"].start_frame, {}, {}, {}))[0],
                             expected.split()[0])

    def test_deeper_paths_that_are_stuck(self):
        deep = function("deep", fork(("puts", ("a",)), ("idle", ("a",)), ("puts", ("a",))), arrays=(
            ("full", "a", "n", "old", ("", 0), ("n", 0)),))
        puts = function("puts", put(0, 1), arrays=(("full", "a", "n", "old", ("", 0), ("", 0)),))
        idle = function("idle", arrays=(("look", "a", "n", ("", 0), ("", 0)),))
        main = function("main", fork(("idle", ("a",)), ("deep", ("a",))))
        shell = shell_of("put " + write_functions((main, deep, puts, idle)))
        self.assertEqual(shell("run main a=1 | - | -"), "stuck 1.0 puts 0 right a; 1.2 puts 0 right a")

    def test_outcomes_are_those_of_the_functions(self):
        words = {}
        for seed in range(150):
            code, maker = claimed_program(seed, 0.6, seed % 2 == 0)
            shell = Shell()
            if shell("put " + write_functions(code.functions))[:4] in ("many", "cann"):
                continue
            for called in code.names:
                situation = maker.beginning(code[called], 4)
                answer = shell("run %s %s" % (called, situation))
                told = outcome(code, called, situation)
                words[told[0]] = words.get(told[0], 0) + 1
                self.assertEqual(answer.split()[0], told[0])
                if told[0] == "done":
                    self.assertEqual(answer, "done " + str(told[1]))
                elif told[0] == "stuck":
                    parts = [".".join(map(str, path)) or "-" for path, _, _, _ in told[1]]
                    faults = [" ".join(map(str, fault)) for _, _, _, fault in told[1]]
                    rows = ["%s %s %d %s" % (parts[k], told[1][k][1], told[1][k][2], faults[k]) for k in range(len(parts))]
                    self.assertEqual(answer, "stuck " + "; ".join(rows))
        self.assertGreater(min([words[word] for word in ("done", "stuck", "long")]), 5, words)


class Errors(unittest.TestCase):
    """[10.8]"""

    def errors(self, shell, *pairs):
        for command, expected in pairs:
            before, many = shell.desk(), len(shell)
            self.assertEqual(shell(command), expected, command)
            self.assertEqual(len(shell), many)
            self.assertTrue(shell.desk() == before)

    def test_what(self):
        shell = shell_of(BOTH, "demand kept fill", "undo")
        self.errors(shell, *[(value, "what") for value in odd_values() + [["names"], ("names",), 10 ** 80, Desk(), shell]])
        self.errors(shell, *[(command, "what") for command in (
            "", " ", "name", "Names", "names ", " names", "names now", "claims all", "verdicts fill", "names\n", "put", "put ", "take", "take ",
            "take  fill", "take fill ", "take Fill", "take fill halves", "take toolonger", "demand", "demand ", "demand kept", "demand kept ",
            "demand  kept fill", "demand kept  fill", "demand kept fill ", "demand kept Fill", "demand holds fill", "demand kept fill fill",
            "demand stands fill", "demand forks fill", "demand stands fill fill fill", "waive", "waive kept", "waive x", "undo ", "undo  1",
            "undo 1 ", "undo -1", "undo 01", "undo 00", "undo +1", "undo x", "undo 1 1", "undo " + "9" * 61, "redo ", "redo -1", "redo 01",
            "show", "show ", "show 1", "show fill fill", "callers", "callers ", "callers Fill", "broken", "broken 0", "stands", "stands fill",
            "stands fill ", "stands  fill fill", "stands fill  fill", "stands fill fill fill", "stands Fill fill", "run", "run ", "run fill",
            "run fill ", "run Fill a=1", "run  fill a=1", "run none", "run none ", "during x", "revise fill", "twin", "len", "Put x", "run\nfill")])

    def test_unknown(self):
        shell = shell_of(BOTH)
        self.errors(shell, ("take none", "unknown none"), ("show none", "unknown none"), ("callers none", "unknown none"),
                    ("broken none", "unknown none"), ("stands one other", "unknown one"), ("stands fill other", "unknown other"),
                    ("demand kept none", "unknown none"), ("demand stands one other", "unknown one"), ("demand forks fill other", "unknown other"),
                    ("run none ?", "unknown none"), ("run none a=1 | - | -", "unknown none"))
        self.errors(Shell(), ("take f", "unknown f"), ("show f", "unknown f"), ("callers f", "unknown f"), ("broken f", "unknown f"),
                    ("stands f f", "unknown f"), ("demand kept f", "unknown f"), ("run f - | - | -", "unknown f"))

    def test_text(self):
        shell = shell_of(BOTH)
        self.errors(shell, ("put  f", "text 0"), ("put F", "text 0"), ("put f(", "text 2"), ("put set()", "text 4"),
                    ("put " + BARE + "\n", "text %d" % (len(BARE) + 1)), ("put " + BARE + "\n" + BARE[:-1], "text %d" % (2 * len(BARE))),
                    ("run fill ", "what"), ("run fill  ", "text 0"), ("run fill a=1 | s=0 t=1", "text 13"),
                    ("run fill a=1 | s=0 t=01 | x=1", "text 13"), ("run halves b=- | h=x | -", "text 8"), ("run halves b=- | h=0 | -\n", "text 13"))

    def test_functions_programs_and_situations(self):
        shell = shell_of(BOTH)
        wrong = BARE.replace("notes ()", "notes (-)")
        self.errors(shell, ("put " + wrong, "function"), ("put " + BARE + "\n" + BARE, "function"), ("put " + wrong + "?", "text %d" % len(wrong)),
                    ("put " + BARE.replace("{ }", "{ fork g(- | - | -) }"), "program"), ("take fill", "program"),
                    ("put " + BARE.replace("f(", "fill("), "program"))
        arrays = "f(look a:n from 0 to 0, look b:n from 0 to 0 | - | -) with (- | -) before (-) after (-) notes () { }"
        shell("put " + arrays)
        self.errors(shell, ("run f a=1 b=- | - | -", "situation"))
        self.assertEqual(shell("run f a=1 b=2 | - | -"), "done a=1 b=2 | - | -")

    def test_refused_and_many(self):
        shell = shell_of(BOTH, "demand kept halves", "demand forks halves fill")
        six = "\n".join([BARE.replace("f(", word + "(", 1) for word in "abcde"])
        far = BARE.replace("-) with", "-) with").replace("f(- | -", "f(- | i").replace("after (-)", "after ([999 <= i])")
        self.errors(shell, ("put " + SPREAD, "refused kept halves"), ("take halves", "refused kept halves"), ("put " + six, "many 6"),
                    ("demand forks fill halves", "refused forks fill halves"), ("demand stands fill halves", "refused stands fill halves"),
                    ("put " + far, "many 1000"), ("undo 4", "nothing 4"), ("redo", "nothing 1"), ("redo 2", "nothing 2"),
                    ("undo " + "9" * 60, "nothing " + "9" * 60))
        for row, bound in (((SKIP,) * 7, 64), ((put(0, 1),) * 5, 4)):
            self.errors(shell, ("put " + write_function(function("f", *row)), "many %d" % bound))
        full = shell_of("put " + six, *["demand %s %s" % (word, name) for word in ("kept", "orderless") for name in "abcd"])
        self.errors(full, ("demand kept e", "many 8"))

    def test_cannot(self):
        shell = shell_of(BOTH, "demand kept halves")
        given = function("g", ("if", ("and", tuple([("pos", "<=", ("", k), ("n", 0)) for k in range(41)]) + (
            ("val", "==", ("a", "", 0, 0), ("", 0)),)), (), ()))
        self.errors(shell, ("demand kept halves", "cannot"), ("waive kept fill", "cannot"), ("waive kept none", "cannot"),
                    ("put " + write_function(given), "cannot"))

    def test_broken_questions_that_are_too_great(self):
        """An unordered function can have one; its verdict does not ask for it."""
        cells = ("and", tuple([("val", "==", ("b", "m", k, 0), ("", 0)) for k in range(20)]))
        wrong = LOOSE["halves"].with_rows(LOOSE["halves"].rows + (("if", cells, (), ()),), ())
        shell = shell_of("put " + write_functions((FILL, wrong)))
        self.assertEqual(shell("verdicts"), "fill kept; halves unordered")
        self.errors(shell, ("broken halves", "many 16"))

    def test_a_text_is_read_first(self):
        six = "\n".join([BARE.replace("f(", word + "(", 1) for word in "abcdefg"])
        self.errors(Shell(), ("put " + six, "many 6"), ("put " + six + "\n", "text %d" % (len(six) + 1)),
                    ("put " + six + "\n" + BARE.replace("notes ()", "notes (-)"), "function"))

    def test_runs_that_are_stuck_are_no_error(self):
        shell = shell_of("put " + write_functions((PAIR, SET)))
        self.assertEqual(shell("run pair %s" % ONES.with_number("i", -1)), "stuck - pair 0 meet 0 0 1 0")
        self.assertEqual(len(shell), 2)


class Values(unittest.TestCase):
    def test_answer(self):
        shell = Shell()
        self.assertEqual([shell.answer(BOTH), shell("names"), shell.answer("names"), shell.answer(7)],
                         ["fill kept; halves kept", "fill; halves", "fill; halves", "what"])
        self.assertEqual((len(shell), str(shell), str(Shell()), len(Shell())), (3, "shell of 3 commands", "shell of 0 commands", 0))
        self.assertRaises(TypeError, iter, shell)
        self.assertRaises(TypeError, list, shell)

    def test_desk_is_a_twin(self):
        shell = shell_of(BOTH, "demand kept halves", "undo")
        desk = shell.desk()
        self.assertEqual(desk.whole(), TWO)
        self.assertEqual(desk.redo(), ())
        self.assertEqual(desk.claims, (("kept", "halves"),))
        desk.undo(many=2)
        self.assertEqual((len(desk), shell("names"), shell("claims")), (0, "fill; halves", "none"))
        self.assertEqual(shell("redo"), "none")
        self.assertEqual(shell.desk().claims, (("kept", "halves"),))
        shell("put " + BARE)
        self.assertEqual(len(desk), 0)

    def test_long_commands(self):
        shell = shell_of(BOTH)
        for sign in ("put ", "a", " ", "\n", "put f(", "run fill ", "undo 1"):
            self.assertIn(shell((sign * 100000)[:100000]).split()[0], ("what", "text"))
        self.assertEqual(shell("run fill a=%s | s=0 t=1 | x=7" % " ".join(["1"] * 40000))[:10], "done a=7 1")


class OneProgram(unittest.TestCase):
    """One program told alike by its text, a desk, a shell, its pieces, its paper and its runs."""

    def test_told_alike(self):
        from forkcells.pieces.kept import broken_questions, is_kept, is_orderless, kept_paper
        from forkcells.pieces.pieces import pieces
        for code in (TWO, LOOSE):
            shell, desk = Shell(), Desk()
            news = desk.put(code.functions)
            self.assertEqual(shell("put " + write_functions(code.functions)), "; ".join(["%s %s" % pair for pair in news]))
            self.assertTrue(shell.desk() == desk)
            for called in code.names:
                broken = broken_questions(code, called)
                self.assertEqual(shell("broken " + called), "; ".join(["%d %d" % pair for pair in broken]) or "none")
                right = all([piece.is_right() for piece in pieces(code, called)])
                verdict = "unordered" if not is_orderless(code, called) else "kept" if is_kept(code, called) else "broken"
                self.assertEqual((desk.verdicts[called], right), (verdict, broken == ()))
            self.assertEqual(kept_paper(code)[0] == "kept", shell("verdicts") == "fill kept; halves kept")
            self.assertEqual(kept_paper(code), kept_paper(desk.whole()))
        self.assertIsNone(raised(Shell))


if __name__ == "__main__":
    unittest.main()

"""Part 4b: outcomes, and what breaks first."""

import unittest

from forkcells.code.functions import Function
from forkcells.code.programs import Program
from forkcells.errors import InvalidNumber, InvalidOperation, InvalidProgram, InvalidSituation, UnknownName
from forkcells.runs.outcomes import first_break, outcome
from forkcells.runs.runs import Run
from forkcells.world.situations import Situation
from code_samples import BOTH, ONES
from makers import ProgramMaker
from naive_runs import NaiveRun
from samples import naive, odd_values, raised
from test_runs import NO, WHOLE, YES, fork, function, put


def beginning(told, row):
    return Situation(told.start_frame, {"a": tuple(row)}, {}, {})


def first(functions, row=(0, 0), **more):
    """What breaks first in a run of the first one of the functions."""
    return first_break(Program(functions), functions[0].called, beginning(functions[0], row), **more)


def cell(position, number, array="a"):
    """That a cell has a number."""
    return ("val", "==", (array, "", position, 0), ("", number))


class Outcomes(unittest.TestCase):
    def test_document(self):
        self.assertEqual(
            [outcome(BOTH, "pair", ONES)[1].cell("a", 1), outcome(BOTH, "pair", ONES.with_number("i", -1)),
             outcome(BOTH, "pair", ONES.with_number("i", 2))],
            [2, ("stuck", (((), "pair", 0, ("meet", 0, 0, 1, 0)),), 0),
             ("stuck", (((), "pair", 0, ("within", 1, 0)),), 0)])

    def test_each_kind(self):
        done = outcome(BOTH, "pair", ONES)
        self.assertEqual((done[0], str(done[1]), done[2]), ("done", "a=1 2 1 aa=1 1 1 | i=0 | -", 3))
        self.assertEqual(outcome(BOTH, "pair", ONES, most=2), ("long", 2))
        self.assertEqual(outcome(BOTH, "pair", ONES, most=3)[2], 3)
        self.assertEqual(outcome(BOTH, "pair", ONES, most=0), ("long", 0))
        self.assertEqual(outcome(BOTH, "pair", ONES.with_number("i", 2), most=0)[0], "stuck")
        loop = function("f", ("while", YES, ()))
        self.assertEqual(outcome(Program((loop,)), "f", beginning(loop, ()), most=1000), ("long", 1000))
        stuck = function("f", put(0, 1), put(1, 1))
        self.assertEqual(outcome(Program((stuck,)), "f", beginning(stuck, (5,))),
                         ("stuck", (((), "f", 1, ("outside", "a")),), 1))
        self.assertEqual(outcome(Program((stuck,)), "f", beginning(stuck, (5,)), most=1)[0], "stuck")
        self.assertEqual(outcome(Program((function("f"),)), "f", beginning(function("f"), ()), most=0)[2], 0)

    def test_several_are_stuck(self):
        leaf = function("leaf", put(9, 1))
        main = function("f", fork(("leaf", ("a",)), ("leaf", ("a",))))
        told = outcome(Program((main, leaf)), "f", beginning(main, (0,)), careless=True)
        self.assertEqual(told, ("stuck", (((0,), "leaf", 0, ("outside", "a")), ((1,), "leaf", 0, ("outside", "a"))), 1))

    def test_keywords(self):
        reads = function("reads", ("write", "a", "", 1, ("a", "", 0, 0)))
        main = function("f", fork(("puts", ("a",)), ("reads", ("a",))))
        program = Program((main, reads, function("puts", put(0, 5))))
        for more, row in (({"careless": True}, (5, 5)), ({"careless": True, "viewing": True}, (1, 1))):
            self.assertEqual(outcome(program, "f", beginning(main, (1, 1)), **more)[1].rows["a"], row)
        self.assertEqual(outcome(program, "f", beginning(main, (1, 1)))[1][0][3], ("meet", 0, 0, 1, 0))

    def test_the_least_active_path_goes_on(self):
        for seed in range(60):
            maker = ProgramMaker(seed, 0.8)
            program = maker.program()
            situation = maker.beginning(program["main"])
            for viewing, careless in ((False, False), (True, False), (False, True), (True, True)):
                told = outcome(program, "main", situation, most=20, viewing=viewing, careless=careless)
                run = NaiveRun(program, "main", situation, viewing, careless)
                steps = 0
                while run.active() and steps < 20:
                    run.go(run.active()[0])
                    steps += 1
                self.assertEqual(told[-1], steps)
                if run.last is not None:
                    self.assertEqual(told[0], "done")
                elif run.active():
                    self.assertEqual(told, ("long", 20))
                else:
                    self.assertEqual(told, ("stuck", tuple(run.stuck()), steps))

    def test_errors(self):
        for call in (outcome, first_break):
            for value in odd_values() + [1001, -1, True]:
                self.assertIsInstance(raised(call, value, None, None, most=None), InvalidProgram)
                self.assertIsInstance(raised(call, BOTH, value, None, most=None), UnknownName)
                self.assertIsInstance(raised(call, BOTH, "pair", value, most=None), InvalidSituation)
                if isinstance(value, bool) or not isinstance(value, int) or not 0 <= value <= 1000:
                    error = raised(call, BOTH, "pair", ONES, most=value)
                    self.assertIsInstance(error, InvalidNumber)
                    self.assertIs(error.number, value)
        for word in ("viewing", "careless"):
            # The errors of a run come first.
            self.assertIsInstance(raised(outcome, BOTH, "pair", ONES, most=None, **{word: 1}), InvalidOperation)


class Breaks(unittest.TestCase):
    def test_nothing(self):
        self.assertIsNone(first_break(BOTH, "pair", ONES))
        self.assertIsNone(first((function("f"),)))
        self.assertIsNone(first((function("f", ("while", YES, ())),), most=1000))

    def test_before(self):
        told = function("f", before=(cell(0, 0), cell(1, 1), cell(0, 1)))
        self.assertEqual(first((told,)), ("before", (), "f", 1))
        self.assertEqual(first((told,), (0, 1)), ("before", (), "f", 2))
        # It is looked at ahead of all steps, also if none is allowed.
        self.assertEqual(first((told,), most=0), ("before", (), "f", 1))

    def test_after(self):
        told = function("f", put(0, 3), after=(cell(0, 3), cell(0, 0, "old"), cell(1, 3)))
        self.assertEqual(first((told,)), ("after", (), "f", 2))
        self.assertIsNone(first((told,), (0, 3)))
        self.assertEqual(first((told,), (1, 3)), ("after", (), "f", 1))
        self.assertIsNone(first((told,), most=0))
        self.assertEqual(first((told,), most=1), ("after", (), "f", 2))
        self.assertEqual(first((function("f", after=(NO,)),), most=0), ("after", (), "f", 0))

    def test_before_comes_ahead_of_after(self):
        self.assertEqual(first((function("f", before=(NO,), after=(NO,)),)), ("before", (), "f", 0))

    def test_notes(self):
        told = function("f", ("while", NO, ()), ("while", ("val", "<", ("a", "", 0, 0), ("", 3)),
                                                 (("write", "a", "", 0, ("a", "", 0, 1)),)))
        two = told.with_notes(1, (YES, ("val", "<", ("a", "", 0, 0), ("", 2))))
        # The note of the second loop is looked at each time that the loop is come to.
        self.assertEqual(first((two,)), ("note", (), "f", 1, 1))
        self.assertIsNone(first((two,), most=4))
        self.assertEqual(first((two,), most=5), ("note", (), "f", 1, 1))
        self.assertEqual(first((two,), (2, 0), most=1), ("note", (), "f", 1, 1))
        self.assertIsNone(first((two,), (2, 0), most=0))
        self.assertEqual(first((two.with_notes(0, (cell(1, 5),)),), most=0), ("note", (), "f", 0, 0))
        self.assertIsNone(first((two.with_notes(0, (cell(1, 5),)).with_notes(1, ()),), (0, 5)))

    def test_notes_speak_of_was_names_and_locals(self):
        loop = ("while", ("pos", "<", ("p", 0), ("", 2)), (("move", "p", ("p", 1)), ("write", "a", "p", -1, ("v", 5))))
        told = function("f", loop, places=("p",), numbers=("v",))
        whole = ("all", ("k",), ("in", "k", ("p", 0), ("n", 0)), ("val", "==", ("a", "k", 0, 0), ("old", "k", 0, 0)))
        self.assertIsNone(first((told.with_notes(0, (whole,)),), (1, 2, 3)))
        wrong = ("all", ("k",), ("in", "k", ("p", -1), ("n", 0)), ("val", "==", ("a", "k", 0, 0), ("old", "k", 0, 0)))
        self.assertEqual(first((told.with_notes(0, (wrong,)),), (1, 2, 3)), ("note", (), "f", 0, 0))

    def test_faults(self):
        self.assertEqual(first((function("f", put(0, 1), put(9, 1)),)), ("fault", (), "f", 1, ("outside", "a")))
        self.assertIsNone(first((function("f", put(0, 1), put(9, 1)),), most=0))
        self.assertEqual(first((function("f", put(0, 1), put(9, 1)),), most=1), ("fault", (), "f", 1, ("outside", "a")))
        narrow = function("f", put(1, 1), arrays=(("full", "a", "n", "old", ("", 0), ("", 1)),))
        self.assertEqual(first((narrow,)), ("fault", (), "f", 0, ("right", "a")))
        leaf = function("leaf", put(0, 1))
        self.assertEqual(first((function("f", fork(("leaf", ("a",)), ("leaf", ("a",)))), leaf)),
                         ("fault", (), "f", 0, ("meet", 0, 0, 1, 0)))

    def test_a_note_comes_ahead_of_a_fault(self):
        loop = ("while", cell(9, 0), ())
        self.assertEqual(first((function("f", loop, notes=((NO,),)),)), ("note", (), "f", 0, 0))
        self.assertEqual(first((function("f", loop, notes=((YES,),)),)), ("fault", (), "f", 0, ("outside", "a")))

    def test_a_contract_comes_ahead_of_notes_and_faults(self):
        loop = function("loop", ("while", NO, ()), notes=((NO,),))
        main = function("f", fork(("loop", ("a",)), ("wrong", ())))
        wrong = function("wrong", arrays=(), before=(NO,))
        self.assertEqual(first((main, loop, wrong)), ("before", (1,), "wrong", 0))
        self.assertEqual(first((main, loop, wrong.with_contract((), (NO,)))), ("after", (1,), "wrong", 0))
        self.assertEqual(first((main, loop, wrong.with_contract((), ()))), ("note", (0,), "loop", 0, 0))

    def test_in_the_order_in_which_functions_begin_and_end(self):
        """All branches begin, and then those without rows end."""
        empty = function("empty", arrays=(), after=(NO,))
        other = function("other", arrays=(), before=(NO,))
        main = function("f", fork(("empty", ()), ("other", ())))
        self.assertEqual(first((main, empty, other)), ("before", (1,), "other", 0))
        self.assertEqual(first((main, empty, other.with_contract((), (NO,)))), ("after", (0,), "empty", 0))
        # The function that waited ends with its last branch.
        self.assertEqual(first((main.with_contract((), (NO,)), empty.with_contract((), ()), other.with_contract((), ()))),
                         ("after", (), "f", 0))

    def test_by_ascending_paths(self):
        loop = function("loop", ("while", NO, ()), notes=((NO,),))
        wrong = function("wrong", put(9, 1))
        main = function("f", fork(("one", ()), ("two", ())))
        one = function("one", ("while", NO, ()), arrays=(), notes=((NO,),))
        two = one.called_as("two")
        self.assertEqual(first((main, one, two)), ("note", (0,), "one", 0, 0))
        self.assertEqual(first((main, one.with_notes(0, ()), two)), ("note", (1,), "two", 0, 0))
        self.assertEqual(first((function("f", fork(("wrong", ("a",)), ("two", ()))), wrong, two)),
                         ("fault", (0,), "wrong", 0, ("outside", "a")))
        self.assertEqual(first((function("f", fork(("two", ()), ("wrong", ("a",)))), wrong, two)),
                         ("note", (0,), "two", 0, 0))
        self.assertEqual(first((function("f", fork(("loop", ("a",)), ("two", ()))), loop, two.with_notes(0, ()))),
                         ("note", (0,), "loop", 0, 0))

    def test_what_functions_see(self):
        """Claims are about views: a branch sees what stood there at the fork."""
        leaf = Function("leaf", arrays=(("full", "u", "l", "uu", ("g", 0), ("g", 1)),), positions=("g",), values=("y",),
                        rows=(("write", "u", "g", 0, ("y", 0)),),
                        after=(("val", "==", ("u", "g", 0, 0), ("y", 0)), cell(0, 1, "u")))
        def main(other):
            return function("f", fork(("leaf", ("a",), (("", 0),), (("", 5),)), ("leaf", ("a",), (("", 1),), (("", other),))))
        # The second branch still sees the 1, though the first one has written 5.
        self.assertEqual(first((main(6), leaf), (1, 1)), ("after", (0,), "leaf", 1))
        self.assertIsNone(first((main(6), leaf.with_contract((), leaf.after[:1])), (1, 1)))
        seen = leaf.with_contract((cell(0, 1, "u"),), (cell(0, 1, "uu"),))
        self.assertIsNone(first((main(6), seen), (1, 1)))
        both = main(6).with_contract((), (cell(0, 5), cell(1, 6), cell(0, 1, "old")))
        self.assertIsNone(first((both, seen), (1, 1)))

    def test_against_a_plain_look(self):
        """By the words of the document, over runs that are made by others."""
        kinds = {}
        for seed in range(900):
            maker = ProgramMaker(seed, 1)
            program = maker.neat_program() if seed % 3 == 0 else maker.program()
            functions = []
            for told in program:
                def claims(frame, *many):
                    made = []
                    for _ in range(maker.rng.choice(many)):
                        one = (maker.rng.choice(frame.arrays)[0], "", maker.rng.randrange(2), 0)
                        other = (maker.rng.choice(frame.arrays)[0], "", maker.rng.randrange(2), maker.rng.randrange(4))
                        made.append(("val", "<=", one, maker.rng.choice([other, ("", 2), ("", 3)])))
                    return tuple(made)
                told = told.with_contract(claims(told.start_frame, 0, 0, 1), claims(told.end_frame, 0, 1, 2))
                for loop in range(len(told.notes)):
                    told = told.with_notes(loop, claims(told.frame, 2, 3))
                functions.append(told)
            program = Program(tuple(functions))
            situation = maker.beginning(program["main"], most=4, least=3)
            most = maker.rng.choice([0, 1, 3, 12])
            expected = self.plain(program, situation, most)
            kinds[expected and expected[0]] = kinds.get(expected and expected[0], 0) + 1
            self.assertEqual(first_break(program, "main", situation, most=most), expected, seed)
        self.assertEqual(len(kinds), 5, kinds)
        self.assertGreater(min(kinds.values()), 2, kinds)

    def plain(self, program, situation, most):
        run = NaiveRun(program, "main", situation, viewing=True)
        told = Run(program, "main", situation, viewing=True)
        found = self.look(run, told, run.ready())
        steps = 0
        while found is None and steps < most and run.active():
            path = run.active()[0]
            ready = set(run.ready())
            run.go(path), told.go(path)
            steps += 1
            came = [one for one in run.ready() if one not in ready or one == path]
            found = self.look(run, told, came)
        return found

    def look(self, run, told, came):
        for word, path, situation, claims, called in self.events_of(run):
            for index, claim in enumerate(claims):
                if not naive(situation, claim):
                    return (word, path, called, index)
        for path in came:
            doer = run.doers[path]
            row = doer.row()
            if row[0] == "while":
                number = [one for one in range(len(doer.function)) if doer.function.row(one)[0] == "while"].index(
                    doer.stack[-1][2])
                for index, claim in enumerate(doer.function.notes[number]):
                    if not naive(told.sight(path), claim):
                        return ("note", path, doer.function.called, number, index)
            fault = run.ask(path)[1]
            if fault is not None:
                return ("fault", path, doer.function.called, doer.stack[-1][2], fault)
        return None

    def events_of(self, run):
        """The events of the last step, with what is seen in them."""
        found = []
        for word, path, doer, views, nums in run.noted:
            function = doer.function
            frame = function.start_frame if word == "before" else function.end_frame
            rows = {array: tuple(views.get(array, doer.olds.get(array))) for array, _ in frame.arrays}
            situation = Situation(frame, rows, {one: nums[one] for one in frame.positions},
                                  {one: nums[one] for one in frame.amounts})
            found.append((word, path, situation, function.before if word == "before" else function.after, function.called))
        return found


if __name__ == "__main__":
    unittest.main()

"""Part 5a: schedules, moments, ends, and schedules that part."""

import unittest

import forkcells.order.schedules as module
from forkcells.code.functions import Function
from forkcells.code.programs import Program
from forkcells.errors import InvalidOperation, InvalidProgram, InvalidSituation, TooMany, UnknownName
from forkcells.order.schedules import ends, is_parting, is_schedule, moments, parting, run_along, schedules
from forkcells.runs.runs import Run
from forkcells.world.situations import Situation
from code_samples import BOTH, NOUGHTS, ONECELL, ONES, TWOCELLS
from makers import ProgramMaker
from naive_orders import all_moments, all_schedules, behind, end_of
from samples import nested, odd_values, raised
from test_runs import YES, fork, function, put

WAITS = function("waits", ("while", ("val", "==", ("a", "", 0, 0), ("", 0)), ()))
PUTS = function("puts", put(0, 1))
COUNTS = function("f", ("while", YES, (("move", "p", ("p", 1)),)), places=("p",))


def told(*functions, row=(0, 0), positions=None):
    """A program, the name of its first function, and a situation with one array."""
    frame = functions[0].start_frame
    return Program(functions), functions[0].called, Situation(frame, {array: row for array, _ in frame.arrays},
                                                              positions or {}, {})


def steps(many, called="steps"):
    """A function that does so many steps that touch nothing."""
    return Function(called, rows=(("if", YES, (), ()),) * many)


def beside(*counts):
    """Functions with so many steps each, side by side."""
    names = ["ab"[k // 2] + "cd"[k % 2] for k in range(len(counts))]
    parts = [steps(many, name) for many, name in zip(counts, names)]
    main = Function("f", rows=(fork(*[(name, ()) for name in names]),))
    return (Program((main,) + tuple(parts)), "f", Situation(main.start_frame, {}, {}, {}))


CALLS = (moments, ends, parting, lambda *more: list(schedules(*more)))


class Examples(unittest.TestCase):
    def test_document(self):
        first, second = ((), (0,), (1,)), ((), (1,), (0,))
        self.assertEqual([list(schedules(ONECELL, "two", NOUGHTS)), len(ends(ONECELL, "two", NOUGHTS)),
                          moments(ONECELL, "two", NOUGHTS)], [[first, second], 2, 6])
        self.assertIs(is_parting(ONECELL, "two", NOUGHTS, (first, second)), True)
        self.assertEqual([parting(TWOCELLS, "two", NOUGHTS), len(ends(TWOCELLS, "two", NOUGHTS))], [None, 1])
        self.assertEqual([is_schedule(TWOCELLS, "two", NOUGHTS, ((), (1,))),
                          is_schedule(TWOCELLS, "two", NOUGHTS, ((), (1,)), whole=True)], [True, False])
        self.assertEqual((module.MAX_STEPS, module.MAX_MOMENTS), (12, 2000))


class Values(unittest.TestCase):
    def test_the_empty_one(self):
        self.assertTrue(is_schedule(ONECELL, "two", NOUGHTS, ()))
        self.assertFalse(is_schedule(ONECELL, "two", NOUGHTS, (), whole=True))
        empty = told(function("f"))
        self.assertTrue(is_schedule(*empty, (), whole=True))
        self.assertFalse(is_schedule(*empty, ((),)))
        self.assertEqual(list(schedules(*empty)), [()])
        self.assertEqual((moments(*empty), len(ends(*empty)), parting(*empty)), (1, 1, None))

    def test_near_values(self):
        good = ((), (0,), (1,))
        for whole in (False, True):
            self.assertTrue(is_schedule(ONECELL, "two", NOUGHTS, good, whole=whole))
            for value in ([(), (0,), (1,)], ((), [0], (1,)), ((), (0,), (0,)), ((0,), (), (1,)), ((), (0,), (1,), ()),
                          ((), (False,), (True,)), ((), (0,), (2,)), ((), (0,), (1, 0)), ((), 0, 1), ((), (0,), None),
                          ((), (0,), ("1",)), "()", ((), (0,), (-1,))):
                self.assertIs(is_schedule(ONECELL, "two", NOUGHTS, value, whole=whole), False, value)
        for value in odd_values() + [nested(39, lambda one: (one,))]:
            if value not in ((), ((),)):
                self.assertIs(is_schedule(ONECELL, "two", NOUGHTS, value), False)
                self.assertIsInstance(raised(run_along, ONECELL, "two", NOUGHTS, value), InvalidOperation)
                self.assertIs(is_parting(ONECELL, "two", NOUGHTS, (value, good)), False)
            self.assertIs(is_parting(ONECELL, "two", NOUGHTS, value), False)
            self.assertIs(is_parting(ONECELL, "two", NOUGHTS, (good, value)), False)
            if not isinstance(value, bool):
                self.assertIsInstance(raised(is_schedule, ONECELL, "two", NOUGHTS, good, whole=value), InvalidOperation)

    def test_at_most_two_thousand_paths(self):
        program, called, situation = told(COUNTS)
        self.assertTrue(is_schedule(program, called, situation, ((),) * 2000))
        self.assertFalse(is_schedule(program, called, situation, ((),) * 2001))
        self.assertEqual(len(run_along(program, called, situation, ((),) * 2000)), 2000)
        self.assertIsInstance(raised(run_along, program, called, situation, ((),) * 2001), InvalidOperation)

    def test_careless_steps_count(self):
        """Rights are not asked: what stands outside of a right can be written."""
        narrow = function("f", put(1, 1), arrays=(("full", "a", "n", "old", ("", 0), ("", 1)),))
        self.assertTrue(is_schedule(*told(narrow), ((),), whole=True))
        self.assertTrue(is_schedule(*told(narrow, row=(0,)), (), whole=True))

    def test_run_along(self):
        run = run_along(ONECELL, "two", NOUGHTS, ((), (1,)))
        self.assertEqual((run.schedule, run.active, run.places), (((), (1,)), ((0,),), {"a": (2, 0)}))
        other = Run(ONECELL, "two", NOUGHTS, careless=True)
        other.go(()), other.go((1,))
        self.assertTrue(run == other)
        run.go((0,))
        self.assertTrue(run.is_done())

    def test_errors(self):
        for value in odd_values() + [True]:
            for call in (moments, ends, parting, lambda *more: next(schedules(*more)),
                         lambda *more: is_schedule(*more, (), whole=None), lambda *more: run_along(*more, None),
                         lambda *more: is_parting(*more, None)):
                self.assertIsInstance(raised(call, value, None, None), InvalidProgram)
                self.assertIsInstance(raised(call, BOTH, value, None), UnknownName)
                self.assertIsInstance(raised(call, BOTH, "pair", value), InvalidSituation)
        self.assertIsInstance(raised(moments, BOTH, "set", ONES), InvalidSituation)


class Through(unittest.TestCase):
    def test_against_plain_runs(self):
        counts = {"several": 0, "parting": 0, "stuck": 0}
        for seed in range(250):
            maker = ProgramMaker(seed, 1)
            program = maker.neat_program() if seed % 2 else maker.program()
            situation = maker.beginning(program["main"])
            found = all_moments(program, "main", situation)
            if found is None:
                continue
            self.assertEqual(moments(program, "main", situation), len(found))
            plain = []
            for run, _ in found.values():
                if not run.active() and end_of(run) not in plain:
                    plain.append(end_of(run))
            shown = ends(program, "main", situation)
            self.assertEqual(len(shown), len(plain))
            for end in shown:
                self.assertIn(self.plain_end(end, situation), plain)
            pair = parting(program, "main", situation)
            self.assertIs(pair is None, len(plain) < 2)
            if pair is not None:
                counts["parting"] += 1
                self.check_pair(program, situation, pair)
            counts["stuck"] += len([end for end in shown if end[0] == "stuck"]) > 0
            if max([len(schedule) for _, schedule in found.values()]) <= 8 and plain:
                counts["several"] += self.check_schedules(program, situation)
        self.assertGreater(min(counts.values()), 8, counts)

    def plain_end(self, end, situation):
        if end[0] == "stuck":
            return end
        return ("done", {array: end[1].rows[array] for array in sorted(situation.rows)})

    def check_pair(self, program, situation, pair):
        self.assertTrue(is_parting(program, "main", situation, pair))
        self.assertTrue(is_parting(program, "main", situation, pair[::-1]))
        self.assertFalse(is_parting(program, "main", situation, list(pair)))
        self.assertFalse(is_parting(program, "main", situation, pair[:1] * 2))
        self.assertFalse(is_parting(program, "main", situation, pair + pair[:1]))
        one, other = [behind(program, "main", situation, schedule) for schedule in pair]
        self.assertFalse(one.active() or other.active())
        self.assertNotEqual(end_of(one), end_of(other))
        if pair[0]:
            self.assertFalse(is_parting(program, "main", situation, (pair[0][:-1], pair[1])))

    def check_schedules(self, program, situation):
        error = raised(lambda: list(schedules(program, "main", situation)))
        if error is not None:
            self.assertIsInstance(error, TooMany)
            return False
        shown = list(schedules(program, "main", situation))
        self.assertEqual(shown, sorted(all_schedules(program, "main", situation)))
        for schedule in shown:
            self.assertTrue(is_schedule(program, "main", situation, schedule, whole=True))
        return len(shown) > 1

    def test_ascending(self):
        found = list(schedules(*beside(2, 1, 1)))
        self.assertEqual(len(found), 12)
        self.assertEqual(found, sorted(set(found)))
        self.assertEqual(found[0], ((), (0,), (0,), (1,), (2,)))

    def test_ends_of_runs_that_are_stuck(self):
        leaf = function("leaf", put(9, 1))
        end, = ends(*told(function("f", fork(("leaf", ("a",)), ("puts", ("a",)))), leaf, PUTS))
        self.assertEqual(end, ("stuck", (((0,), "leaf", 0, ("outside", "a")),), {"a": (1, 0)}))

    def test_runs_without_an_end(self):
        loop = function("f", ("while", YES, ()))
        self.assertEqual((moments(*told(loop)), ends(*told(loop)), parting(*told(loop))), (1, (), None))
        self.assertEqual(raised(lambda: list(schedules(*told(loop)))).bound, 12)
        # One order has an end, another one has none.
        main = function("f", fork(("waits", ("a",)), ("puts", ("a",))))
        self.assertEqual((moments(*told(main, WAITS, PUTS)), len(ends(*told(main, WAITS, PUTS)))), (4, 1))
        self.assertIsNone(parting(*told(main, WAITS, PUTS)))

    def test_done_and_stuck_are_unlike(self):
        asks = function("asks", ("if", ("or", (("val", "==", ("a", "", 0, 0), ("", 1)), ("val", "<", ("a", "", 9, 0), ("", 0)))),
                                 (), ()))
        undoes = function("undoes", put(0, 1), put(0, 0))
        found = told(function("f", fork(("asks", ("a",)), ("undoes", ("a",)))), asks, undoes)
        self.assertEqual(sorted([end[0] for end in ends(*found)]), ["done", "stuck"])
        self.assertTrue(is_parting(*found, parting(*found)))

    def test_ends_tell_who_is_stuck(self):
        """The places are the same, but another function is stuck."""
        flips = function("flips", ("if", ("val", "==", ("a", "", 0, 0), ("", 0)), (put(0, 1), put(9, 1)), (put(0, 1), put(8, 1))))
        found = told(function("f", fork(("flips", ("a",)), ("flips", ("a",)))), flips)
        self.assertEqual({end[2]["a"] for end in ends(*found)}, {(1, 0)})
        self.assertGreater(len(ends(*found)), 1)

    def test_locals_of_the_stuck_do_not_count(self):
        keeps = function("keeps", ("keep", "v", ("a", "", 0, 0)), put(9, 1), numbers=("v",))
        found = told(function("f", fork(("keeps", ("a",)), ("puts", ("a",)))), keeps, PUTS)
        self.assertEqual((len(ends(*found)), parting(*found)), (1, None))


class Bounds(unittest.TestCase):
    def test_twelve_steps(self):
        self.assertEqual(list(schedules(*beside(11))), [((),) + ((0,),) * 11])
        error = raised(lambda: list(schedules(*beside(12))))
        self.assertIsInstance(error, TooMany)
        self.assertEqual(error.bound, 12)

    def test_two_thousand_whole_ones(self):
        """The numbers of orders are those of rows of branches: 1680, 4200 and 1260 of them."""
        self.assertEqual(len(list(schedules(*beside(3, 3, 3)))), 1680)
        self.assertEqual(len(list(schedules(*beside(4, 4, 1)))), 630)
        self.assertEqual(raised(lambda: list(schedules(*beside(4, 3, 3)))).bound, 2000)
        self.assertEqual(len(list(schedules(*beside(2, 3, 4)))), 1260)

    def test_which_comes_first(self):
        # With twelve steps behind the fork the first schedule can go on.
        self.assertEqual(raised(lambda: list(schedules(*beside(4, 4, 4)))).bound, 12)
        # One branch is long only if it begins ahead of the one that puts a number.
        idle = ("if", YES, (), ())
        late = function("late", ("if", ("val", "==", ("a", "", 0, 0), ("", 1)), (idle, idle), (idle,) * 12))
        long = function("long", put(0, 1), idle, idle, idle, idle)
        three = steps(3, "three")
        first = function("f", fork(("long", ("a",)), ("three", ()), ("late", ("a",))))
        last = function("f", fork(("late", ("a",)), ("three", ()), ("long", ("a",))))
        self.assertEqual(raised(lambda: list(schedules(*told(first, long, three, late)))).bound, 2000)
        self.assertEqual(raised(lambda: list(schedules(*told(last, long, three, late)))).bound, 12)

    def test_errors_come_with_the_first_one(self):
        for found in (beside(12), beside(4, 3, 3)):
            self.assertIsInstance(raised(lambda: next(schedules(*found))), TooMany)
        self.assertIsNone(raised(schedules, None, None, None))
        self.assertIsInstance(raised(lambda: next(schedules(None, None, None))), InvalidProgram)

    def test_two_thousand_moments(self):
        for found in (told(COUNTS), told(function("f", fork(("f", ("a",)))))):
            for call in (moments, ends, parting):
                error = raised(call, *found)
                self.assertIsInstance(error, TooMany)
                self.assertEqual(error.bound, 2000)
        # A loop that counts to so much has just so many moments.
        def counts(most):
            loop = ("while", ("pos", "<", ("p", 0), ("", most)), (("move", "p", ("p", 1)),))
            return told(function("f", loop, places=("p",)))
        self.assertEqual(moments(*counts(10)), 22)
        self.assertEqual(moments(*counts(999)), 2000)
        self.assertEqual(raised(moments, *counts(1000)).bound, 2000)
        self.assertEqual(len(ends(*counts(999))), 1)


if __name__ == "__main__":
    unittest.main()

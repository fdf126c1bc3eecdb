"""Part 5b: races, and steps that clash."""

import unittest

from forkcells.code.functions import Function
from forkcells.errors import InvalidOperation, InvalidProgram, InvalidSituation, TooMany, UnknownName
from forkcells.order.races import clashes, first_race, is_free, is_race, late_clashes, races_at
from forkcells.order.schedules import ends, is_schedule, parting, run_along, schedules
from forkcells.runs.runs import Run
from code_samples import BOTH, NOUGHTS, ONECELL, ONES, TWOCELLS
from makers import ProgramMaker
from naive_orders import all_moments, behind, clashes as plain_clashes, races as plain_races
from samples import odd_values, raised
from test_runs import NO, YES, fork, function, put
from test_schedules import COUNTS, PUTS, WAITS, beside, told

READS = function("reads", ("keep", "v", ("a", "", 0, 0)), numbers=("v",))
IDLE = ("if", YES, (), ())


class Examples(unittest.TestCase):
    def test_document(self):
        self.assertEqual(races_at(run_along(ONECELL, "two", NOUGHTS, ((),))), (((0,), (1,)), ((1,), (0,))))
        self.assertIs(is_race(ONECELL, "two", NOUGHTS, (((),), (1,), (0,))), True)
        self.assertEqual([clashes(ONECELL, "two", NOUGHTS, ((), (0,), (1,))),
                          clashes(TWOCELLS, "two", NOUGHTS, ((), (0,), (1,))), is_free(ONECELL, "two", NOUGHTS),
                          is_free(TWOCELLS, "two", NOUGHTS)], [((1, 2),), (), False, True])
        self.assertIsNone(first_race(TWOCELLS, "two", NOUGHTS))


class RacesAt(unittest.TestCase):
    def races(self, *functions, steps=1, row=(0, 0), **more):
        program, called, situation = told(*functions, row=row)
        run = Run(program, called, situation, **{"careless": True, **more})
        run.go_on(most=steps)
        return races_at(run)

    def main(self, *names):
        return function("f", fork(*[(name, ("a",)) for name in names]))

    def test_kinds_of_rows(self):
        self.assertEqual(self.races(self.main("puts", "reads"), PUTS, READS), (((0,), (1,)),))
        self.assertEqual(self.races(self.main("reads", "puts"), PUTS, READS), (((1,), (0,)),))
        self.assertEqual(self.races(self.main("reads", "reads"), READS), ())
        self.assertEqual(self.races(self.main("puts", "puts"), PUTS), (((0,), (1,)), ((1,), (0,))))
        self.assertEqual(self.races(self.main("puts", "waits"), PUTS, WAITS), (((0,), (1,)),))
        self.assertEqual(self.races(self.main("puts", "waits", "puts"), PUTS, WAITS),
                         (((0,), (1,)), ((0,), (2,)), ((2,), (0,)), ((2,), (1,))))
        moves = function("moves", ("move", "p", ("", 0)), places=("p",))
        self.assertEqual(self.races(self.main("puts", "moves"), PUTS, moves), ())
        # What is read for a cell that is written counts, too; other cells do not.
        copies = function("copies", ("write", "a", "", 1, ("a", "", 0, 0)))
        self.assertEqual(self.races(self.main("puts", "copies"), PUTS, copies), (((0,), (1,)),))
        self.assertEqual(self.races(self.main("copies", "reads"), copies, READS), ())

    def test_forks_are_read_for(self):
        leaf = function("leaf", IDLE, values=("y",))
        calls = function("calls", fork(("leaf", ("a",), (), (("a", "", 0, 0),))))
        self.assertEqual(self.races(self.main("puts", "calls"), PUTS, calls, leaf), (((0,), (1,)),))

    def test_stuck_ones(self):
        """One that is stuck races with nobody, but others race with it."""
        stuck = function("stuck", ("write", "a", "", 9, ("a", "", 0, 0)))
        self.assertEqual(self.races(self.main("puts", "stuck"), PUTS, stuck), (((0,), (1,)),))
        # It touches the cells up to its fault, and not the one at which it is.
        wrong = function("wrong", ("keep", "v", ("a", "", 9, 0)), numbers=("v",))
        self.assertEqual(self.races(self.main("puts", "wrong"), PUTS, wrong), ())

    def test_related_ones_and_those_that_wait(self):
        deep = function("deep", fork(("puts", ("a",))))
        run = (self.main("deep", "puts"), deep, PUTS)
        self.assertEqual(self.races(*run), ())
        self.assertEqual(self.races(*run, steps=2), (((0, 0), (1,)), ((1,), (0, 0))))

    def test_places_count(self):
        """Two names of one place are one cell, and arrays of other places are others."""
        arrays = (("full", "a", "n", "aa", ("", 0), ("n", 0)), ("full", "b", "n", "bb", ("", 0), ("n", 0)))
        both = Function("both", arrays=(("look", "w", "l", ("", 0), ("l", 0)),), numbers=("v",),
                        rows=(("keep", "v", ("w", "", 0, 0)),))
        for array, expected in (("a", (((0,), (1,)),)), ("b", ())):
            main = Function("f", arrays=arrays, rows=(fork(("puts", ("a",)), ("both", (array,))),))
            self.assertEqual(self.races(main, both, PUTS), expected)

    def test_runs_that_ask_for_rights(self):
        program, called, situation = told(self.main("puts", "puts"), PUTS)
        self.assertEqual(races_at(Run(program, called, situation)), ())
        for careless in (False, True):
            error = raised(races_at, Run(program, called, situation, viewing=True, careless=careless))
            self.assertIsInstance(error, InvalidOperation)
        for value in odd_values() + [program]:
            self.assertIsInstance(raised(races_at, value), InvalidOperation)

    def test_ended_runs(self):
        self.assertEqual(self.races(self.main("puts", "puts"), PUTS, steps=9), ())


class Clashes(unittest.TestCase):
    def setUp(self):
        self.writes = told(function("f", fork(("puts", ("a",)), ("reads", ("a",))), fork(("puts", ("a",)), ("puts", ("a",)))),
                           PUTS, READS)

    def test_steps_between(self):
        """A step of the path that holds both forks stands between them."""
        schedule = ((), (0,), (1,), (), (1,), (0,))
        self.assertEqual(clashes(*self.writes, schedule), ((1, 2), (4, 5)))
        self.assertEqual(clashes(*self.writes, schedule[:2]), ())
        self.assertEqual(clashes(*self.writes, ()), ())

    def test_only_cells_that_are_written(self):
        found = told(function("f", fork(("reads", ("a",)), ("reads", ("a",)), ("puts", ("a",)))), READS, PUTS)
        self.assertEqual(clashes(*found, ((), (0,), (2,), (1,))), ((1, 2), (2, 3)))
        self.assertEqual(clashes(*found, ((), (0,), (1,))), ())

    def test_deeper_paths(self):
        deep = function("deep", fork(("puts", ("a",))), ("keep", "v", ("a", "", 0, 0)), numbers=("v",))
        found = told(function("f", fork(("deep", ("a",)), ("deep", ("a",)))), deep, PUTS)
        # (0,) and (0, 0) are related; (0, 0) and (1, 0) are held by the first fork.
        self.assertEqual(clashes(*found, ((), (0,), (0, 0), (0,), (1,), (1, 0), (1,))), ((2, 5), (2, 6), (3, 5)))

    def test_late(self):
        stuck = function("stuck", ("write", "a", "", 9, ("a", "", 0, 0)))
        found = told(function("f", fork(("puts", ("a",)), ("stuck", ("a",)))), PUTS, stuck)
        self.assertEqual(late_clashes(*found, ((), (0,))), ((1, (1,)),))
        self.assertEqual(clashes(*found, ((), (0,))), ())
        self.assertEqual(late_clashes(*found, ((),)), ())
        self.assertFalse(is_free(*found))
        # What is looked at does not clash late; neither does what is written behind a fault.
        found = told(function("f", fork(("reads", ("a",)), ("stuck", ("a",)))), READS, stuck)
        self.assertEqual(late_clashes(*found, ((), (0,))), ())
        ahead = function("ahead", ("keep", "v", ("a", "", 9, 0)), numbers=("v",))
        found = told(function("f", fork(("puts", ("a",)), ("ahead", ("a",)))), PUTS, ahead)
        self.assertEqual((late_clashes(*found, ((), (0,))), is_free(*found)), ((), True))

    def test_late_with_a_step_between(self):
        stuck = function("stuck", ("write", "a", "", 9, ("a", "", 0, 0)))
        found = told(function("f", fork(("puts", ("a",))), fork(("puts", ("a",)), ("stuck", ("a",)))), PUTS, stuck)
        self.assertEqual(late_clashes(*found, ((), (0,), (), (0,))), ((3, (1,)),))
        self.assertEqual(late_clashes(*found, ((), (0,), ())), ())

    def test_errors(self):
        for call in (clashes, late_clashes):
            for value in odd_values():
                if value not in ((), ((),)):
                    self.assertIsInstance(raised(call, ONECELL, "two", NOUGHTS, value), InvalidOperation)
            self.assertIsInstance(raised(call, ONECELL, "two", NOUGHTS, ((), (2,))), InvalidOperation)
            self.assertIsInstance(raised(call, ONECELL, "two", NOUGHTS, ((), (False,))), InvalidOperation)
        for value in odd_values():
            for call in (clashes, late_clashes, is_race, lambda *more: is_free(*more[:3]),
                         lambda *more: first_race(*more[:3])):
                self.assertIsInstance(raised(call, value, None, None, None), InvalidProgram)
                self.assertIsInstance(raised(call, BOTH, value, None, None), UnknownName)
                self.assertIsInstance(raised(call, BOTH, "pair", value, None), InvalidSituation)
        self.assertIsInstance(raised(is_free, BOTH, "set", ONES), InvalidSituation)


class FirstRace(unittest.TestCase):
    def test_as_few_steps_as_possible(self):
        late = function("late", IDLE, IDLE, put(0, 2))
        found = told(function("f", fork(("late", ("a",)), ("puts", ("a",)), ("waits", ("a",)))), late, PUTS, WAITS)
        schedule, p, q = first_race(*found)
        self.assertEqual((schedule, p, q), (((),), (1,), (2,)))
        apart = told(function("f", fork(("late", ("a",)), ("slow", ("a",)))), late,
                     function("slow", IDLE, ("keep", "v", ("a", "", 0, 0)), numbers=("v",)))
        schedule, p, q = first_race(*apart)
        self.assertEqual((len(schedule), p, q), (4, (0,), (1,)))
        self.assertTrue(is_race(*apart, (schedule, p, q)))
        self.assertIsNone(first_race(*beside(2, 2)))

    def test_values(self):
        good = (((),), (1,), (0,))
        for value in odd_values() + [list(good), good[:2], good + ((),), ((), (1,), (0,)), (((),), (1,), (1,)), (((),), (), (0,)),
                                     (((),), (True,), (0,)), (((),), (1,), (False,)), (((), (0,)), (1,), (0,)),
                                     (((2,),), (1,), (0,)), ([()], (1,), (0,)), (((),), [1], (0,)), (((),), (1,), 0)]:
            self.assertIs(is_race(ONECELL, "two", NOUGHTS, value), False, value)
            for k in range(3):
                if value not in ((), ((),)) and value != (1,):
                    self.assertIs(is_race(ONECELL, "two", NOUGHTS, good[:k] + (value,) + good[k + 1:]), False)
        # A schedule of any length.
        longer = told(function("f", fork(("puts", ("a",)), ("puts", ("a",)), ("idle", ()))), PUTS,
                      function("idle", IDLE, IDLE, IDLE, arrays=()))
        self.assertTrue(is_race(*longer, (((), (2,), (2,), (2,)), (0,), (1,))))
        self.assertEqual(len(first_race(*longer)[0]), 1)

    def test_all_moments_are_gone_through(self):
        """More than two thousand of them are too many, also if there is a race at once."""
        count = Function("count", rows=COUNTS.rows, notes=((),), places=("p",))
        found = told(function("f", fork(("puts", ("a",)), ("puts", ("a",)), ("count", ()))), PUTS, count)
        self.assertEqual(raised(first_race, *found).bound, 2000)
        self.assertTrue(is_race(*found, (((),), (0,), (1,))))


class Free(unittest.TestCase):
    def test_two_thousand_steps(self):
        def counts(most):
            loop = ("while", ("pos", "<", ("p", 0), ("", most)), (("move", "p", ("p", 1)),))
            return function("counts", loop, places=("p",))
        self.assertTrue(is_free(*told(counts(999))))
        error = raised(is_free, *told(counts(1000)))
        self.assertIsInstance(error, TooMany)
        self.assertEqual(error.bound, 2000)
        exact = function("f", ("while", ("pos", "<", ("p", 0), ("", 999)), (("move", "p", ("p", 1)),)), IDLE, places=("p",))
        self.assertTrue(is_free(*told(exact)))
        self.assertEqual(raised(is_free, *told(exact.with_rows(exact.rows + (IDLE,), ((),)))).bound, 2000)
        # Also if steps clash long ahead of it.
        main = function("f", fork(("puts", ("a",)), ("puts", ("a",)), ("endless", ())))
        endless = function("endless", ("while", YES, ()), arrays=())
        self.assertEqual(raised(is_free, *told(main, PUTS, endless)).bound, 2000)

    def test_one_schedule_decides(self):
        """[5.5], for all whole schedules and all moments of plain runs."""
        counts = {True: 0, False: 0}
        for seed in range(500):
            maker = ProgramMaker(seed, 1)
            program = maker.program() if seed % 3 else maker.neat_program()
            situation = maker.beginning(program["main"], most=4, least=1)
            found = all_moments(program, "main", situation, most=40)
            if found is None:
                continue
            told_races = [plain_races(run) for run, _ in found.values()]
            free = not any(told_races)
            least = Run(program, "main", situation, careless=True)
            if least.go_on(most=60) == 60:
                continue
            counts[free] += 1
            self.assertIs(is_free(program, "main", situation), free)
            for run, schedule in found.values():
                along = run_along(program, "main", situation, schedule)
                self.assertEqual(list(races_at(along)), plain_races(run))
                expected = plain_clashes(program, "main", situation, schedule)
                self.assertEqual((clashes(program, "main", situation, schedule),
                                  late_clashes(program, "main", situation, schedule)), expected)
                if not run.active():
                    self.assertIs(not expected[0] and not expected[1], free)
            self.check_first(program, situation, found)
            if free and max([len(schedule) for _, schedule in found.values()]) <= 8:
                self.check_free(program, situation)
        self.assertGreater(min(counts.values()), 20, counts)

    def check_first(self, program, situation, found):
        race = first_race(program, "main", situation)
        lengths = [len(schedule) for run, schedule in found.values() if plain_races(run)]
        if not lengths:
            self.assertIsNone(race)
            return
        self.assertEqual(len(race[0]), min(lengths))
        self.assertTrue(is_race(program, "main", situation, race))
        self.assertIn(race[1:], plain_races(behind(program, "main", situation, race[0])))

    def check_free(self, program, situation):
        """None part, and all whole schedules have equally many steps."""
        self.assertIsNone(parting(program, "main", situation))
        error = raised(lambda: list(schedules(program, "main", situation)))
        if error is None:
            self.assertEqual(len({len(one) for one in schedules(program, "main", situation)}), 1)
            self.assertEqual(len(ends(program, "main", situation)), 1)

    def test_nobody_races_who_asks_for_rights(self):
        """[5.6]: at no moment, and each of its schedules is one of the careless run, with the same moment."""
        steps = 0
        for seed in range(200):
            maker = ProgramMaker(seed, 0.7)
            program = maker.neat_program() if seed % 3 else maker.program()
            situation = maker.beginning(program["main"], most=4)
            run, careless = [Run(program, "main", situation, careless=one) for one in (False, True)]
            while not run.is_over() and len(run) < 20:
                self.assertEqual(races_at(run), ())
                path = maker.rng.choice(run.active)
                run.go(path), careless.go(path)
                steps += 1
                self.assertEqual((run.places, run.waiting), (careless.places, careless.waiting))
                for one in run.active:
                    self.assertEqual(run.row_at(one), careless.row_at(one))
            self.assertTrue(is_schedule(program, "main", situation, run.schedule))
        self.assertGreater(steps, 300)


class NotTrue(unittest.TestCase):
    """[5.7]"""

    def test_a_race_need_not_part(self):
        found = told(function("f", fork(("puts", ("a",)), ("puts", ("a",)))), PUTS)
        self.assertFalse(is_free(*found))
        self.assertIsNone(parting(*found))
        # Both may write what stands there.
        self.assertIsNone(parting(*told(function("f", fork(("puts", ("a",)), ("reads", ("a",)))), PUTS, READS)))

    def test_whole_schedules_of_unlike_length(self):
        tests = function("tests", ("if", ("val", "==", ("a", "", 0, 0), ("", 0)), (IDLE,), ()))
        found = told(function("f", fork(("puts", ("a",)), ("tests", ("a",)))), PUTS, tests)
        self.assertEqual({len(one) for one in schedules(*found)}, {3, 4})
        self.assertIsNone(parting(*found))

    def test_a_stuck_path_can_go_on(self):
        asks = function("asks", ("if", ("or", (("val", "==", ("a", "", 0, 0), ("", 1)), ("val", "<", ("a", "", 9, 0), ("", 0)))),
                                 (), ()))
        found = told(function("f", fork(("asks", ("a",)), ("puts", ("a",)))), asks, PUTS)
        run = run_along(*found, ((),))
        self.assertEqual([one[0] for one in run.stuck], [(0,)])
        run.go((1,))
        self.assertEqual((run.stuck, run.active), ((), ((0,),)))

    def test_a_race_behind_a_moment_without_one(self):
        slow = function("slow", IDLE, put(0, 1))
        found = told(function("f", fork(("slow", ("a",)), ("puts", ("a",)))), slow, PUTS)
        self.assertEqual(races_at(run_along(*found, ((),))), ())
        self.assertNotEqual(races_at(run_along(*found, ((), (0,)))), ())

    def test_false_conditions(self):
        """A loop whose condition is false does one step, and races if a cell is asked."""
        waits = function("waits", ("while", ("and", (NO, ("val", "==", ("a", "", 0, 0), ("", 0)))), ()))
        found = told(function("f", fork(("puts", ("a",)), ("waits", ("a",)))), PUTS, waits)
        self.assertTrue(is_free(*found))


if __name__ == "__main__":
    unittest.main()

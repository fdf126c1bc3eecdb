"""Part 5c: exchanges, sorted forms, and ways from one schedule to another one."""

import unittest

import forkcells.order.traces as module
from forkcells.errors import (InvalidNumber, InvalidOperation, InvalidProgram, InvalidSituation, TooMany,
                              UnknownName)
from forkcells.order.races import is_free
from forkcells.order.schedules import is_schedule, run_along, schedules
from forkcells.order.traces import (are_alike, exchange_way, exchanged, exchanges, forms, is_exchange_way,
                                    sorted_form)
from code_samples import BOTH, NOUGHTS, ONECELL, ONES, TWOCELLS
from makers import ProgramMaker
from naive_orders import all_moments, all_schedules, behind, related, touched, writes
from samples import odd_values, raised
from test_runs import fork, function, put
from test_schedules import COUNTS, PUTS, beside, steps, told

FIRST, SECOND = ((), (0,), (1,)), ((), (1,), (0,))


def plain_exchanges(program, called, situation, schedule):
    """[5.3], by plain runs."""
    found = []
    for k in range(len(schedule) - 1):
        p, q = schedule[k], schedule[k + 1]
        if related(p, q):
            continue
        run = behind(program, called, situation, schedule[:k])
        one, other = run.touches(p), run.touches(q)
        races = (p in run.active() and writes(one) & touched(other)) or (q in run.active() and writes(other) & touched(one))
        if not races:
            found.append(k)
    return tuple(found)


def swapped(schedule, k):
    return schedule[:k] + (schedule[k + 1], schedule[k]) + schedule[k + 2:]


def plain_class(beginning, schedule, most=400):
    """All schedules to which exchanges lead, or None for more than so many."""
    found, left = {schedule}, [schedule]
    while left:
        one = left.pop()
        for k in plain_exchanges(*beginning, one):
            other = swapped(one, k)
            if other not in found:
                if len(found) == most:
                    return None
                found.add(other)
                left.append(other)
    return found


class Examples(unittest.TestCase):
    def test_document(self):
        self.assertEqual(module.MAX_SORTED, 64)
        self.assertEqual(forms(ONECELL, "two", NOUGHTS), (FIRST, SECOND))
        self.assertEqual([exchanges(TWOCELLS, "two", NOUGHTS, SECOND), sorted_form(TWOCELLS, "two", NOUGHTS, SECOND)],
                         [(1,), FIRST])
        self.assertIs(is_exchange_way(TWOCELLS, "two", NOUGHTS, SECOND, FIRST, (1,)), True)
        self.assertIs(are_alike(ONECELL, "two", NOUGHTS, FIRST, SECOND), False)


class Exchanges(unittest.TestCase):
    def test_related_ones_and_races(self):
        # A fork and its branch, two that race, two that do neither.
        self.assertEqual(exchanges(ONECELL, "two", NOUGHTS, FIRST), ())
        self.assertEqual(exchanges(TWOCELLS, "two", NOUGHTS, FIRST), (1,))
        self.assertEqual(exchanges(*beside(2, 1), ((), (0,), (0,), (1,))), (2,))
        self.assertEqual(exchanges(*beside(1, 1, 1), ((), (0,), (1,), (2,))), (1, 2))
        for schedule in ((), ((),)):
            self.assertEqual(exchanges(*beside(1, 1), schedule), ())

    def test_first_and_last_index(self):
        found = beside(1, 1, 1)
        schedule = ((), (0,), (1,), (2,))
        self.assertEqual(exchanged(*found, schedule, 1), ((), (1,), (0,), (2,)))
        self.assertEqual(exchanged(*found, schedule, 2), ((), (0,), (2,), (1,)))
        for index in [0, 3, 4, -1, -2] + [value for value in odd_values() if value not in (1, 2)] + [True, (1,), [1], "1"]:
            error = raised(exchanged, *found, schedule, index)
            self.assertIsInstance(error, InvalidNumber, index)
            self.assertEqual(error.number, index)

    def test_one_writes_what_another_one_touches(self):
        reads = function("reads", ("keep", "v", ("a", "", 0, 0)), numbers=("v",))
        for names, expected in ((("puts", "puts"), ()), (("puts", "reads"), ()), (("reads", "puts"), ()),
                                (("reads", "reads"), (1,))):
            main = function("f", fork(*[(name, ("a",)) for name in names]))
            self.assertEqual(exchanges(*told(main, PUTS, reads), FIRST), expected)

    def test_a_condition_touches_what_it_asks(self):
        """An or asks for its second cell only where the first part is false."""
        asks = function("asks", ("if", ("or", (("val", "==", ("a", "", 1, 0), ("", 5)), ("val", "==", ("a", "", 0, 0), ("", 0)))),
                                 (), ()))
        main = function("f", fork(("puts", ("a",)), ("asks", ("a",))))
        self.assertEqual(exchanges(*told(main, PUTS, asks, row=(0, 5)), FIRST), (1,))
        self.assertEqual(exchanges(*told(main, PUTS, asks, row=(0, 0)), FIRST), ())

    def test_one_that_is_stuck_until_the_other_one_wrote(self):
        asks = function("asks", ("if", ("and", (("val", "==", ("a", "", 0, 0), ("", 0)), ("val", "==", ("a", "", 9, 0), ("", 0)))),
                                 (), ()))
        main = function("f", fork(("puts", ("a",)), ("asks", ("a",))))
        found = told(main, PUTS, asks)
        self.assertTrue(is_schedule(*found, FIRST))
        self.assertFalse(is_schedule(*found, SECOND))
        self.assertEqual(exchanges(*found, FIRST), ())

    def test_plain_runs(self):
        for seed in range(150):
            maker = ProgramMaker(seed, 1)
            program = maker.program() if seed % 2 else maker.neat_program()
            beginning = (program, "main", maker.beginning(program["main"], most=4, least=1))
            run = run_along(*beginning, ())
            while run.active and len(run) < 9:
                run.go(maker.rng.choice(run.active))
            self.assertEqual(exchanges(*beginning, run.schedule), plain_exchanges(*beginning, run.schedule))
            for index in exchanges(*beginning, run.schedule):
                other = exchanged(*beginning, run.schedule, index)
                self.assertEqual(other, swapped(run.schedule, index))
                self.assertEqual(behind(*beginning, other).key(), behind(*beginning, run.schedule).key())


class SortedForms(unittest.TestCase):
    def test_by_hand(self):
        found = beside(2, 1, 1)
        self.assertEqual(sorted_form(*found, ((), (2,), (1,), (0,), (0,))), ((), (0,), (0,), (1,), (2,)))
        self.assertEqual(sorted_form(*found, ()), ())
        # A deeper path comes behind the shorter one with which it begins.
        deep = function("deep", fork(("puts", ("a",))), arrays=(("full", "a", "n", "old", ("", 0), ("n", 0)),))
        main = function("f", fork(("deep", ("a",)), ("idle", ())))
        idle = steps(1, "idle")
        self.assertEqual(sorted_form(*told(main, deep, PUTS, idle), ((), (1,), (0,), (0, 0))), ((), (0,), (0, 0), (1,)))

    def test_least_of_all(self):
        """For programs small enough to find all alike ones one by one."""
        classes = {1: 0, 2: 0}
        for seed in range(400):
            maker = ProgramMaker(seed, 1)
            program = maker.program() if seed % 3 else maker.neat_program()
            beginning = (program, "main", maker.beginning(program["main"], most=4, least=1))
            moments = all_moments(*beginning, most=25)
            if moments is None or max([len(schedule) for _, schedule in moments.values()]) > 7:
                continue
            if isinstance(raised(lambda: list(schedules(*beginning))), TooMany):
                continue
            whole = all_schedules(*beginning)
            if len(whole) > 60:
                continue
            expected = {}
            for schedule in whole:
                alike = plain_class(beginning, schedule)
                self.assertEqual(sorted_form(*beginning, schedule), min(alike))
                expected[min(alike)] = alike
                for other in whole[:8]:
                    self.assertIs(are_alike(*beginning, schedule, other), other in alike)
                    if other in alike:
                        way = exchange_way(*beginning, schedule, other)
                        self.assertTrue(is_exchange_way(*beginning, schedule, other, way))
                        self.follow(beginning, schedule, other, way)
                    else:
                        self.assertIsInstance(raised(exchange_way, *beginning, schedule, other), InvalidOperation)
                        self.assertFalse(is_exchange_way(*beginning, schedule, other, ()))
            self.assertEqual(forms(*beginning), tuple(sorted(expected)))
            if is_free(*beginning):
                # [5.5]: without a race all whole schedules are alike.
                self.assertEqual(len(expected), 1)
            classes[min(2, len(expected))] += 1
            # Also schedules that are not whole.
            for schedule in [one[:len(one) // 2] for one in whole[:3]]:
                self.assertEqual(sorted_form(*beginning, schedule), min(plain_class(beginning, schedule)))
        self.assertGreater(min(classes.values()), 8, classes)

    def follow(self, beginning, one, other, way):
        """Step by step, by exchanges alone."""
        self.assertLessEqual(len(way), 5000)
        for index in way:
            self.assertIn(index, plain_exchanges(*beginning, one))
            one = swapped(one, index)
        self.assertEqual(one, other)


class Ways(unittest.TestCase):
    def test_values_near_told_ways(self):
        found, one, other = beside(2, 1), ((), (1,), (0,), (0,)), ((), (0,), (0,), (1,))
        self.assertEqual(exchange_way(*found, one, other), (1, 2))
        good = exchange_way(*found, one, other)
        self.assertTrue(is_exchange_way(*found, one, other, good))
        self.assertTrue(is_exchange_way(*found, one, other, good + (2, 2)))
        for value in [good[:1], good[::-1], good + (2,), good + (0,), good + (3,), (-3,) + good, list(good), (True, 2),
                      (1, 2, None), ((1, 2),), ()] + odd_values():
            self.assertIs(is_exchange_way(*found, one, other, value), False, value)
        # An exchange that is none does not become one by being taken back.
        self.assertFalse(is_exchange_way(*found, one, one, (0, 0)))
        self.assertFalse(is_exchange_way(*found, other, other, (1, 1)))
        self.assertFalse(is_exchange_way(ONECELL, "two", NOUGHTS, FIRST, FIRST, (1, 1)))
        self.assertTrue(is_exchange_way(TWOCELLS, "two", NOUGHTS, FIRST, FIRST, (1, 1)))
        self.assertEqual(exchange_way(*found, one, one), ())
        self.assertTrue(is_exchange_way(*found, one, one, ()))
        self.assertIs(is_exchange_way(*found, (), (), ()), True)
        self.assertIs(is_exchange_way(*found, (), (), (0,)), False)
        self.assertIs(is_exchange_way(*found, one, (), ()), False)

    def test_how_long_they_are(self):
        found, one, other = beside(1, 1), SECOND, FIRST
        self.assertTrue(is_exchange_way(*found, one, one, (1,) * 5000))
        self.assertTrue(is_exchange_way(*found, one, other, (1,) * 4999))
        self.assertFalse(is_exchange_way(*found, one, other, (1,) * 5001))
        self.assertFalse(is_exchange_way(*found, one, one, (1,) * 5002))

    def test_the_longest_one(self):
        """Sixty-three steps of three branches, the other way round."""
        found = beside(21, 21, 21)
        one = ((),) + ((2,),) * 21 + ((1,),) * 21 + ((0,),) * 21
        other = ((),) + ((0,),) * 21 + ((1,),) * 21 + ((2,),) * 21
        way = exchange_way(*found, one, other)
        self.assertEqual(len(way), 3 * 21 * 21)
        self.assertTrue(is_exchange_way(*found, one, other, way))
        self.assertEqual(sorted_form(*found, one), other)


class Limits(unittest.TestCase):
    def setUp(self):
        loop = ("while", ("and", ()), (("move", "p", ("p", 1)),))
        self.found = told(function("f", loop, places=("p",)))
        self.calls = (lambda *more: exchanges(*more), lambda *more: exchanged(*more, 0), lambda *more: sorted_form(*more),
                      lambda *more: are_alike(*more, ()), lambda *more: are_alike(*more[:3], (), more[3]),
                      lambda *more: exchange_way(*more, ()), lambda *more: is_exchange_way(*more, (), None),
                      lambda *more: is_exchange_way(*more[:3], (), more[3], None))

    def test_sixty_four_steps(self):
        self.assertEqual(sorted_form(*self.found, ((),) * 64), ((),) * 64)
        for call in self.calls:
            self.assertNotIsInstance(raised(call, *self.found, ((),) * 64), TooMany)
            for many in (65, 2000):
                self.assertEqual(raised(call, *self.found, ((),) * many).bound, 64)
            # With more than 2000 it is no schedule.
            self.assertIsInstance(raised(call, *self.found, ((),) * 2001), InvalidOperation)

    def test_which_error_comes_first(self):
        for call in self.calls:
            self.assertIsInstance(raised(call, None, "two", NOUGHTS, None), InvalidProgram)
            self.assertIsInstance(raised(call, ONECELL, "none", None, None), UnknownName)
            self.assertIsInstance(raised(call, ONECELL, "two", ONES, None), InvalidSituation)
            for value in odd_values() + [[()], ((), (2,)), ((), (False,)), ((0,),)]:
                if value not in ((), ((),)):
                    self.assertIsInstance(raised(call, ONECELL, "two", NOUGHTS, value), InvalidOperation)
        # What is no schedule comes ahead of one that is too long, and this ahead of all else.
        long = ((),) * 65
        for call in (are_alike, exchange_way, lambda *more: is_exchange_way(*more, ())):
            self.assertIsInstance(raised(call, *self.found, long, None), InvalidOperation)
            self.assertIsInstance(raised(call, *self.found, None, long), InvalidOperation)
            self.assertIsInstance(raised(call, *self.found, (), long), TooMany)
        self.assertIsInstance(raised(exchanged, *self.found, long, None), TooMany)
        self.assertIsInstance(raised(exchanged, *self.found, None, None), InvalidOperation)

    def test_forms_go_through_all_schedules(self):
        self.assertEqual(raised(forms, *beside(6, 6)).bound, 12)
        self.assertEqual(raised(forms, *beside(4, 4, 3)).bound, 2000)
        self.assertEqual(forms(*beside(4, 4)), (((),) + ((0,),) * 4 + ((1,),) * 4,))
        self.assertIsInstance(raised(forms, None, None, None), InvalidProgram)
        self.assertIsInstance(raised(forms, BOTH, "none", None), UnknownName)
        self.assertIsInstance(raised(forms, BOTH, "pair", NOUGHTS), InvalidSituation)
        count = told(function("f", fork(("puts", ("a",)), ("count", ()))), PUTS,
                     function("count", *COUNTS.rows, arrays=(), places=("p",)))
        self.assertEqual(raised(forms, *count).bound, 12)


class FalseSentences(unittest.TestCase):
    """[5.7]: an example for each of them."""

    def test_a_race_without_schedules_that_part(self):
        from forkcells.order.schedules import parting
        from forkcells.order.races import first_race
        found = told(function("f", fork(("puts", ("a",)), ("puts", ("a",)))), PUTS)
        self.assertIsNotNone(first_race(*found))
        self.assertIsNone(parting(*found))
        # Two schedules with the same end that are not alike in order.
        self.assertEqual(run_along(*found, FIRST).end, run_along(*found, SECOND).end)
        self.assertFalse(are_alike(*found, FIRST, SECOND))

    def test_unlike_numbers_of_steps(self):
        asks = function("asks", ("if", ("val", "==", ("a", "", 0, 0), ("", 0)), (put(1, 1),), ()))
        found = told(function("f", fork(("puts", ("a",)), ("asks", ("a",)))), PUTS, asks)
        self.assertEqual(sorted({len(one) for one in schedules(*found)}), [3, 4])

    def test_one_that_is_stuck_goes_on(self):
        asks = function("asks", ("if", ("and", (("val", "==", ("a", "", 0, 0), ("", 0)), ("val", "==", ("a", "", 9, 0), ("", 0)))),
                                 (), ()))
        found = told(function("f", fork(("puts", ("a",)), ("asks", ("a",)))), PUTS, asks)
        run = run_along(*found, ((),))
        self.assertEqual([one[0] for one in run.stuck], [(1,)])
        run.go((0,))
        self.assertEqual((run.stuck, run.active), ((), ((1,),)))

    def test_a_race_behind_a_moment_without_one(self):
        from forkcells.order.races import races_at
        late = function("late", ("if", ("and", ()), (), ()), put(0, 2))
        found = told(function("f", fork(("late", ("a",)), ("puts", ("a",)))), late, PUTS)
        self.assertEqual(races_at(run_along(*found, ((),))), ())
        self.assertNotEqual(races_at(run_along(*found, ((), (0,)))), ())


if __name__ == "__main__":
    unittest.main()

"""[2.1], [2.2] and Part 2a: differences, what fits them, and rings."""

import itertools
import random
import unittest

from forkcells.base.frames import Frame
from forkcells.errors import InvalidClaim, InvalidFrame, InvalidOperation, InvalidTerm
from forkcells.solve.differences import (differences_of, fitting, is_fitting, is_ring, ring,
                                         tightest)
from samples import CHAIN, FRAME, LONGER, Maker, SHOWN, SIXTY, TRUE, UPTO, naive, odd_values

CELL = ("a", "i", 2)
POINTS = ["", "i", "abcdefgh", "*1", "*10", "*987654321", CELL, ("a", "", 0), ("b", "*2", -SIXTY)]
NO_POINTS = ["*", "*0", "*01", "**1", "*1a", "*-1", "* 1", "1", "A", "abcdefghi", "i1", None, True, 1, 0,
             ("a", "i"), ("a", "i", 2, 0), ("", "i", 2), ("*1", "i", 2), ("a", "*0", 2), ("a", "I", 2),
             ("a", "i", True), ("a", "i", LONGER), ("a", "i", None), ("a", None, 2), (None, "i", 2),
             ["a", "i", 2], ["i"], ("a", ["i"], 2), ("i",), (), {}, {"a": 1}, ("a", "i", "2"), FRAME]


def all_points(differences):
    points = {""}
    for one, other, _ in differences:
        points.update([one, other])
    return points


def random_differences(rng, many, points, low=-3, high=4):
    return tuple([(rng.choice(points), rng.choice(points), rng.randint(low, high)) for _ in range(many)])


def is_true_for(differences, numbers):
    return all([numbers[one] - numbers[other] <= most for one, other, most in differences])


class Example(unittest.TestCase):
    def test_example(self):
        self.assertEqual(
            [tightest(CHAIN, "j", ""), tightest(CHAIN, "", "i"), ring(CHAIN), is_ring(CHAIN + (("i", "j", 1),), (3, 1))],
            [2, -1, None, True])
        self.assertEqual(
            [differences_of(FRAME, ("pos", "<", ("i", 1), ("n", -1))),
             differences_of(FRAME, ("not", ("val", "<=", ("a", "i", 2, 1), ("x", 0))))],
            [(("i", "n", -3),), (("x", ("a", "i", 2), 0),)])


class Arguments(unittest.TestCase):
    def calls(self, differences):
        return [(fitting, (differences,)), (ring, (differences,)), (is_fitting, (differences, None)),
                (is_ring, (differences, None)), (tightest, (differences, None, None))]

    def refused(self, differences):
        for call, told in self.calls(differences):
            self.assertRaises(InvalidOperation, call, *told)

    def test_points(self):
        for point in POINTS:
            self.assertEqual(fitting(((point, point, 0),)), {**{"": 0}, point: 0})
            self.assertEqual(tightest((), point, point), 0)
        for point in NO_POINTS:
            self.refused(((point, "", 0),))
            self.refused((("", point, 0),))
            self.assertRaises(InvalidTerm, tightest, (), point, "")
            self.assertRaises(InvalidTerm, tightest, (), "", point)
            self.assertRaises(InvalidTerm, tightest, (), point, None)

    def test_long_words(self):
        self.assertEqual(tightest((("*" + "1" * 30, "", 3),), "*" + "1" * 30, ""), 3)
        self.refused((("x" * 100000, "", 0),))
        self.refused((("*" + "0" * 99999, "", 0),))

    def test_no_differences(self):
        for value in odd_values():
            if value != ():
                self.refused(value)
            self.refused((value,))
            self.refused((("i", "", 1), value))
        for value in ([("i", "", 1)], (["i", "", 1],), (("i", ""),), (("i", "", 1, 1),), ("i", "", 1),
                      (("i", "", True),), (("i", "", None),), (("i", "", LONGER),), (("i", "", -LONGER),),
                      (("i", "", "1"),), {("i", "", 1): 1}):
            self.refused(value)

    def test_at_most_sixty(self):
        sixty = tuple([("i", "j", k) for k in range(60)])
        self.assertEqual(tightest(sixty, "i", "j"), 0)
        self.assertIsNone(ring(sixty))
        self.assertTrue(is_fitting(sixty, fitting(sixty)))
        self.refused(sixty + (("i", "j", 60),))

    def test_arguments_do_not_change(self):
        value = {"": 0, "i": 4, "j": 2}
        self.assertTrue(is_fitting(CHAIN, value))
        self.assertEqual(value, {"": 0, "i": 4, "j": 2})
        self.assertEqual(CHAIN, (("i", "", 4), ("j", "i", -2), ("", "j", 1)))


class Fitting(unittest.TestCase):
    def test_none_and_one(self):
        self.assertEqual(fitting(()), {"": 0})
        self.assertIsNone(fitting((("", "", -1),)))
        self.assertEqual(fitting((("", "", 0),)), {"": 0})
        self.assertIsNone(fitting((("i", "i", -1),)))
        self.assertIsNone(fitting((("i", "j", 1), ("j", "i", -2))))
        self.assertEqual(fitting((("i", "", 5), ("", "i", -5))), {"": 0, "i": 5})
        self.assertEqual(fitting((("", "i", 7), ("i", "", -7))), {"": 0, "i": -7})

    def test_keys_in_order(self):
        points = [("b", "", 0), "z", ("a", "i", 2), "*2", ("a", "i", -1), "a", ("a", "*1", 5), "*10", "ab"]
        made = fitting(tuple([(point, "", 0) for point in points]))
        self.assertEqual(list(made), ["", "*10", "*2", "a", "ab", "z", ("a", "*1", 5), ("a", "i", -1),
                                      ("a", "i", 2), ("b", "", 0)])
        self.assertEqual(list(fitting((("z", "a", 0),))), ["", "a", "z"])

    def test_great_numbers(self):
        points = ["p" + letter for letter in "abcdefghijklmnopqrstuvwxyz"]
        chain = tuple([(points[k + 1], points[k], -SIXTY) for k in range(25)])
        made = fitting(chain)
        self.assertTrue(is_fitting(chain, made))
        self.assertTrue(max([abs(number) for number in made.values()]) < 10 ** 70)
        self.assertIsNone(fitting(chain + (("pa", "pz", 25 * SIXTY - 1 - 24 * SIXTY),)))
        self.assertEqual(tightest(chain, "pz", "pa"), -25 * SIXTY)

    def test_is_fitting(self):
        good = {"": 0, "i": 4, "j": 2}
        for value in (good, {"j": 2, "i": 4, "": 0}, {"": 0, "i": 1, "j": -1}, fitting(CHAIN)):
            self.assertIs(is_fitting(CHAIN, value), True)
        for value in ({}, {"": 0}, {"": 0, "i": 4}, {"i": 4, "j": 2}, {**good, "n": 0}, {**good, 1: 0},
                      {**good, "i": 5}, {**good, "j": 3}, {"": 1, "i": 5, "j": 3}, {"": 0, "i": 0, "j": -2},
                      {"": False, "i": 4, "j": 2}, {"": 0, "i": True, "j": -1}, {"": 0, "i": "4", "j": 2},
                      {"": 0, "i": None, "j": 2}, [("", 0), ("i", 4), ("j", 2)], ("", "i", "j"), None,
                      {"": 0, "i": 4, "n": 2}):
            self.assertIs(is_fitting(CHAIN, value), False, value)
        for value in odd_values():
            self.assertIs(is_fitting(CHAIN, value), False)
            self.assertIs(is_fitting((), value), False)
        self.assertIs(is_fitting((), {"": 0}), True)
        self.assertIs(is_fitting((), {"": 0, "i": 0}), False)
        self.assertIs(is_fitting((), {"": False}), False)

    def test_is_fitting_with_long_integers(self):
        self.assertIs(is_fitting((("i", "j", 0),), {"": 0, "i": 10 ** 99, "j": 10 ** 99}), True)
        self.assertIs(is_fitting((("i", "j", 0),), {"": 0, "i": 10 ** 99 + 1, "j": 10 ** 99}), False)

    def test_true_is_not_one_in_a_key(self):
        differences = ((("a", "i", 1), ("a", "i", 0), 0),)
        self.assertIs(is_fitting(differences, {"": 0, ("a", "i", 1): 0, ("a", "i", 0): 0}), True)
        self.assertIs(is_fitting(differences, {"": 0, ("a", "i", True): 0, ("a", "i", 0): 0}), False)
        self.assertIs(is_fitting(differences, {"": 0, ("a", "i", 1): 0, ("a", "i", False): 0}), False)

    def test_against_all_small_numbers(self):
        rng = random.Random(5)
        points = ["", "i", "*1", ("a", "i", 0)]
        for _ in range(300):
            differences = random_differences(rng, rng.randrange(1, 6), points, -2, 2)
            used = sorted(all_points(differences) - {""}, key=str)
            fits = []
            for numbers in itertools.product(range(-6, 7), repeat=len(used)):
                value = dict(zip([""] + used, (0,) + numbers))
                if is_true_for(differences, value):
                    fits.append(value)
            made = fitting(differences)
            self.assertEqual(made is None, not fits, differences)
            if fits:
                self.assertEqual(set(made), set(used) | {""})
                self.assertTrue(is_true_for(differences, made) and made[""] == 0)
                self.assertTrue(is_fitting(differences, made))
                self.assertIsNone(ring(differences))
                self.assertTrue(is_fitting(differences, rng.choice(fits)))
            else:
                self.assertTrue(is_ring(differences, ring(differences)))


class Rings(unittest.TestCase):
    def test_one_index(self):
        differences = (("i", "i", 0), ("j", "j", -1), ("", "", -5))
        for value, expected in (((0,), False), ((1,), True), ((2,), True), ((1, 1), True), ((1, 2), False),
                                ((), False), ((3,), False), ((-1,), False), ((-2,), False), ((True,), False),
                                ([1], False), (1, False), ((1.5,), False), (("1",), False), ((None,), False)):
            self.assertIs(is_ring(differences, value), expected, value)
        self.assertIn(ring(differences), ((1,), (2,)))

    def test_more_indices(self):
        differences = (("i", "j", 1), ("j", "n", -3), ("n", "i", 1), ("j", "i", -1), ("i", "n", 5))
        for value, expected in (((0, 1, 2), True), ((1, 2, 0), True), ((2, 0, 1), True), ((0, 2, 1), False),
                                ((2, 1, 0), False), ((0, 1), False), ((0, 3), False), ((3, 0), False),
                                ((0, 3, 0, 1, 2), True), ((4, 2), False), ((0, 1, 2, 0, 1, 2), True),
                                ((0, 1, 2, 0), False), ((0, 1, 2, 4, 2), False), ((0, True, 2), False)):
            self.assertIs(is_ring(differences, value), expected, value)

    def test_sum_just_below_and_at_nought(self):
        for last, expected in ((-2, True), (-1, True), (0, False), (1, False)):
            differences = (("i", "j", 3), ("j", "n", -3), ("n", "i", last))
            self.assertIs(is_ring(differences, (0, 1, 2)), expected)
            self.assertIs(ring(differences) is not None, expected)
            self.assertIs(fitting(differences) is None, expected)

    def test_twice_around(self):
        differences = (("i", "j", 4), ("j", "i", -5))
        self.assertIs(is_ring(differences, (0, 1, 0, 1)), True)
        self.assertIs(is_ring(differences, (1, 0, 1, 0, 1, 0)), True)
        self.assertIs(is_ring(differences, (0, 1, 0)), False)

    def test_odd_values(self):
        for value in odd_values():
            self.assertIs(is_ring(CHAIN, value), False)
            self.assertIs(is_ring((), value), False)
            self.assertIs(is_ring(CHAIN, (value,)), False)
        self.assertIs(is_ring((("i", "i", -1),), (False,)), False)
        self.assertIs(is_ring((("i", "i", -1),), (0,) * 1000), True)

    def test_cells_are_points(self):
        differences = ((("a", "i", 1), ("a", "i", 2), 0), (("a", "i", 2), ("a", "i", 1), -1))
        self.assertIs(is_ring(differences, (0, 1)), True)
        self.assertEqual(sorted(ring(differences)), [0, 1])
        differences = ((("a", "i", 1), ("a", "i", 2), 0), (("a", "i", 3), ("a", "i", 1), -1))
        self.assertIs(is_ring(differences, (0, 1)), False)

    def test_long_rings_are_found(self):
        points = ["", "a", "b", "c", "d", "e", "f", "g", "h", "*1", "*2", ("a", "i", 0)]
        chain = [(points[k], points[(k + 1) % 12], (-1) ** k) for k in range(12)]
        self.assertIsNone(ring(tuple(chain)))
        chain[5] = (chain[5][0], chain[5][1], chain[5][2] - 1)
        found = ring(tuple(chain))
        self.assertTrue(is_ring(tuple(chain), found))
        self.assertEqual(sorted(found), list(range(12)))
        rng = random.Random(6)
        for _ in range(300):
            differences = random_differences(rng, 60, points + ["i%s" % "abcdefgh"[k] for k in range(8)], -2, 12)
            found = ring(differences)
            self.assertEqual(found is None, fitting(differences) is not None)
            if found is not None:
                self.assertIsInstance(found, tuple)
                self.assertTrue(is_ring(differences, found))


class Tightest(unittest.TestCase):
    def test_reached(self):
        self.assertEqual(tightest((("i", "j", 3),), "i", "j"), 3)
        self.assertEqual(tightest((("i", "j", 3), ("i", "j", 2), ("i", "j", 4)), "i", "j"), 2)
        self.assertEqual(tightest((("i", "j", 3), ("i", "n", 1), ("n", "j", 1)), "i", "j"), 2)
        self.assertEqual(tightest((("i", "j", 3), ("j", "", -1)), "i", ""), 2)
        self.assertEqual(tightest((("i", "i", 3),), "i", "i"), 0)
        self.assertEqual(tightest((("i", "j", 1), ("j", "i", -1)), "i", "i"), 0)
        self.assertEqual(tightest(CHAIN, "i", "i"), 0)
        self.assertEqual(tightest(CHAIN, "i", ""), 4)
        self.assertEqual(tightest(CHAIN, "", "j"), 1)
        self.assertEqual(tightest(CHAIN, "i", "j"), 5)

    def test_as_great_as_one_likes(self):
        self.assertIsNone(tightest((("i", "j", 3),), "j", "i"))
        self.assertIsNone(tightest((("i", "j", 3),), "i", ""))
        self.assertIsNone(tightest((), "i", "j"))
        self.assertIsNone(tightest((), "", "i"))
        self.assertIsNone(tightest(CHAIN, "n", "i"))
        self.assertIsNone(tightest(CHAIN, "i", ("a", "i", 0)))

    def test_refused(self):
        broken = (("i", "j", 1), ("j", "i", -2))
        self.assertRaises(InvalidOperation, tightest, broken, "i", "j")
        self.assertRaises(InvalidOperation, tightest, broken, "x", "x")
        self.assertRaises(InvalidTerm, tightest, broken, "I", "j")
        self.assertRaises(InvalidTerm, tightest, broken, "i", "J")
        self.assertRaises(InvalidOperation, tightest, (1,), "I", "J")

    def test_against_all_small_numbers(self):
        rng = random.Random(8)
        points = ["", "i", ("a", "", 1)]
        for _ in range(200):
            differences = random_differences(rng, rng.randrange(1, 6), points, -3, 3)
            if fitting(differences) is None:
                continue
            fits = []
            for numbers in itertools.product(range(-12, 13), repeat=2):
                value = dict(zip(points, (0,) + numbers))
                if is_true_for(differences, value):
                    fits.append(value)
            for one in points:
                for other in points:
                    most = max([value[one] - value[other] for value in fits])
                    bound = tightest(differences, one, other)
                    if bound is None:
                        self.assertGreaterEqual(most, 9)
                    else:
                        self.assertEqual(most, bound)


class DifferencesOf(unittest.TestCase):
    def test_each_form(self):
        pos, val = (("i", 2), ("j", 5)), (("a", "i", 3, 2), ("x", 5))
        for kind, terms, one, other in (("pos", pos, "i", "j"), ("val", val, ("a", "i", 3), "x")):
            for claim, expected in (
                    ((kind, "<=") + terms, ((one, other, 3),)), ((kind, "<") + terms, ((one, other, 2),)),
                    ((kind, "==") + terms, ((one, other, 3), (other, one, -3))),
                    (("not", (kind, "<=") + terms), ((other, one, -4),)),
                    (("not", (kind, "<") + terms), ((other, one, -3),))):
                self.assertEqual(differences_of(FRAME, claim), expected)

    def test_terms(self):
        self.assertEqual(differences_of(FRAME, ("pos", "<=", ("", 4), ("n", -1))), (("", "n", -5),))
        self.assertEqual(differences_of(FRAME, ("val", "<=", ("", 4), ("a", "", -1, -2))), (("", ("a", "", -1), -6),))
        self.assertEqual(differences_of(FRAME, ("val", "==", ("a", "n", 0, 1), ("a", "n", 0, 1))),
                         ((("a", "n", 0), ("a", "n", 0), 0),) * 2)
        self.assertEqual(differences_of(FRAME, ("pos", "<", ("i", SIXTY), ("j", -SIXTY))),
                         (("i", "j", -2 * SIXTY - 1),))

    def test_none_of_these(self):
        equal = ("pos", "==", ("i", 0), ("j", 0))
        for claim in (TRUE, ("or", ()), UPTO, ("not", UPTO), ("not", equal), ("not", ("not", equal)),
                      ("not", ("val", "==", ("x", 0), ("", 0))), ("and", (equal,)), ("or", (equal,)),
                      ("not", ("not", ("pos", "<", ("i", 0), ("j", 0)))), ("not", TRUE), ("not", ("and", (equal,)))):
            self.assertRaises(InvalidOperation, differences_of, FRAME, claim)

    def test_errors_in_order(self):
        for value in odd_values():
            if not isinstance(value, Frame):
                self.assertRaises(InvalidFrame, differences_of, value, None)
            self.assertRaises(InvalidClaim, differences_of, FRAME, value)
        self.assertRaises(InvalidClaim, differences_of, FRAME, ("pos", "<", ("*1", 0), ("j", 0)))
        self.assertRaises(InvalidFrame, differences_of, SHOWN, TRUE)

    def test_says_the_same(self):
        maker = Maker(FRAME, 31)
        for _ in range(300):
            claim, situation = maker.atom(), maker.situation()
            if claim[1] != "==" and maker.rng.random() < 0.5:
                claim = ("not", claim)

            def number(point):
                if isinstance(point, tuple):
                    return situation.value_at(point + (0,))
                return 0 if point == "" else {**situation.positions, **situation.lengths, **situation.amounts}[point]
            said = [number(one) - number(other) <= most for one, other, most in differences_of(FRAME, claim)]
            self.assertEqual(all(said), naive(situation, claim))


if __name__ == "__main__":
    unittest.main()

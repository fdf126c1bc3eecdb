"""Part 3a: rights as integers, and as claims and guards."""

import random
import unittest

from forkcells.base.frames import Frame
from forkcells.code.rights import (apart_claim, do_meet, in_right, is_within, outside_right, usable_claim,
                                   within_claim)
from forkcells.errors import InvalidFrame, InvalidName, InvalidOperation, InvalidTerm, UnknownName
from forkcells.logic.claims import is_claim
from forkcells.world.situations import Situation
from samples import FRAME, LONGER, SIXTY, WIDE, odd_values, raised

PAIRS = [(low, high) for low in range(-2, 4) for high in range(-2, 4)]


def cells(right):
    return set(range(right[0], right[1]))


class Integers(unittest.TestCase):
    def test_within_and_meet_by_their_cells(self):
        for right in PAIRS:
            for other in PAIRS:
                self.assertIs(is_within(right, other), cells(right) <= cells(other))
                self.assertIs(do_meet(right, other), bool(cells(right) & cells(other)))

    def test_touching_and_empty(self):
        self.assertEqual([is_within((3, 3), (0, 1)), is_within((5, 2), (0, 1)), is_within((0, 1), (3, 3))],
                         [True, True, False])
        self.assertEqual([do_meet((0, 2), (2, 4)), do_meet((2, 4), (0, 2)), do_meet((0, 3), (2, 4))],
                         [False, False, True])
        # An empty one in the middle of another one meets nothing.
        self.assertEqual([do_meet((0, 5), (2, 2)), do_meet((0, 2), (1, 1)), do_meet((3, 1), (0, 5))], [False] * 3)
        self.assertEqual([is_within((1, 2), (0, 3)), is_within((0, 3), (0, 3)), is_within((-1, 3), (0, 3))],
                         [True, True, False])

    def test_great_integers(self):
        self.assertTrue(is_within((SIXTY - 1, SIXTY), (-SIXTY, SIXTY)))
        self.assertTrue(do_meet((-SIXTY, SIXTY), (SIXTY - 1, SIXTY)))
        self.assertFalse(do_meet((-SIXTY, -1), (-1, SIXTY)))
        for pair in ((0, LONGER), (-LONGER, 0)):
            for call in (is_within, do_meet):
                self.assertIsInstance(raised(call, pair, (0, 1)), InvalidOperation)
                self.assertIsInstance(raised(call, (0, 1), pair), InvalidOperation)

    def test_errors(self):
        wrong = odd_values() + [(True, 2), (0, False), (0, 1, 2), [0, 1], (0, "1"), (None, 1)]
        for value in wrong:
            for call in (is_within, do_meet):
                self.assertIsInstance(raised(call, value, (0, 1)), InvalidOperation)
                self.assertIsInstance(raised(call, (0, 1), value), InvalidOperation)


class Claims(unittest.TestCase):
    def test_forms(self):
        one, other = (("l", 1), ("h", 2)), (("", 0), ("n", -1))
        self.assertEqual(within_claim(one, other), (
            "or", (("pos", "<=", ("h", 2), ("l", 1)),
                   ("and", (("pos", "<=", ("", 0), ("l", 1)), ("pos", "<=", ("h", 2), ("n", -1)))))))
        self.assertEqual(apart_claim(one, other), (
            "or", (("pos", "<=", ("h", 2), ("", 0)), ("pos", "<=", ("n", -1), ("l", 1)),
                   ("pos", "<=", ("h", 2), ("l", 1)), ("pos", "<=", ("n", -1), ("", 0)))))
        self.assertEqual(usable_claim(FRAME, "a", (("i", 0), ("n", 0)), ("j", 2)), (
            "and", (("pos", "<=", ("", 0), ("j", 2)), ("pos", "<", ("j", 2), ("n", 0)),
                    ("pos", "<=", ("i", 0), ("j", 2)), ("pos", "<", ("j", 2), ("n", 0)))))
        self.assertEqual(in_right("k", one), ("in", "k", ("l", 1), ("h", 2)))
        self.assertEqual(outside_right("k", one), (
            "or", (("in", "k", ("", 0), ("l", 1)), ("pos", "<=", ("h", 2), ("k", 0)))))

    def test_they_say_what_the_integers_say(self):
        rng = random.Random(5)
        frame = Frame((("a", "n"), ("b", "m")), ("i", "j", "h", "g"), ())

        def term():
            return (rng.choice(["", "i", "j", "h", "g", "n", "m"]), rng.randrange(-3, 4))
        for _ in range(400):
            rows = {"a": (0,) * rng.randrange(5), "b": (0,) * rng.randrange(5)}
            shown = Situation(frame, rows, {word: rng.randrange(-4, 6) for word in "ijhg"}, {})
            one, other, spot = (term(), term()), (term(), term()), term()
            right, other_right = [tuple([shown.position_at(part) for part in pair]) for pair in (one, other)]
            position = shown.position_at(spot)
            self.assertIs(shown.holds(within_claim(one, other)), is_within(right, other_right))
            self.assertIs(shown.holds(apart_claim(one, other)), not do_meet(right, other_right))
            usable = 0 <= position < len(rows["b"]) and right[0] <= position < right[1]
            self.assertIs(shown.holds(usable_claim(frame, "b", one, spot)), usable)
            marks = tuple([1 if right[0] <= k < right[1] else 0 for k in range(len(rows["a"]))])
            marked = Situation(frame, {"a": marks, "b": rows["b"]}, shown.positions, {})
            ones = ("val", "==", ("a", "k", 0, 0), ("", 1))
            inner = ("and", (("in", "k", ("", 0), ("n", 0)),))
            self.assertTrue(marked.holds(("all", ("k",), ("and", (inner, in_right("k", one))), ones)))
            noughts = ("val", "==", ("a", "k", 0, 0), ("", 0))
            self.assertTrue(marked.holds(("all", ("k",), outside_right("k", one), noughts)))
            # All cells are in one of both, unless the right is empty: then they are outside.
            for k in range(len(marks)):
                kept = [("pos", "==", ("k", 0), ("", k)), outside_right("k", one)]
                never = marked.holds(("all", ("k",), ("and", tuple(kept)), ("or", ())))
                self.assertIs(never, right[0] <= k < right[1])

    def test_guards_are_guards(self):
        right = (("i", 1), ("n", -1))
        for guard in (in_right("k", right), outside_right("k", right)):
            self.assertTrue(is_claim(FRAME, ("all", ("k",), guard, ("and", ()))))

    def test_terms_of_any_frame(self):
        right = (("whatever", SIXTY), ("", -SIXTY))
        self.assertIsNone(raised(within_claim, right, right))
        self.assertIsNone(raised(apart_claim, right, right))
        self.assertIsNone(raised(in_right, "k", right))
        self.assertIsNone(raised(outside_right, "k", right))
        self.assertIsInstance(raised(usable_claim, FRAME, "a", right, ("i", 0)), InvalidTerm)

    def test_wrong_rights(self):
        good = (("i", 0), ("n", 0))
        wrong = odd_values() + [(("i", 0),), (("i", 0), ("n", 0), ("n", 0)), [("i", 0), ("n", 0)], (("i", 0), ["n", 0]),
                                (("i", True), ("n", 0)), (("A", 0), ("n", 0)), (("i", LONGER), ("n", 0)),
                                (("i", 0), ("toolonger", 0)), (("i", 0), ("n", 0, 0)), (("a", "i", 0, 0), ("n", 0))]
        for value in wrong:
            for call in (within_claim, apart_claim):
                self.assertIsInstance(raised(call, value, good), InvalidTerm)
                self.assertIsInstance(raised(call, good, value), InvalidTerm)
            for call in (in_right, outside_right):
                self.assertIsInstance(raised(call, "k", value), InvalidTerm)
            self.assertIsInstance(raised(usable_claim, FRAME, "a", value, ("i", 0)), InvalidTerm)

    def test_other_errors(self):
        good = (("i", 0), ("n", 0))
        for value in odd_values():
            for call in (in_right, outside_right):
                # A wrong name comes ahead of a wrong right.
                self.assertIsInstance(raised(call, value, None), InvalidName)
            if not isinstance(value, Frame):
                self.assertIsInstance(raised(usable_claim, value, None, None, None), InvalidFrame)
            error = raised(usable_claim, FRAME, value, None, None)
            self.assertIsInstance(error, UnknownName)
            self.assertIs(error.name, value)
            self.assertIsInstance(raised(usable_claim, FRAME, "a", good, value), InvalidTerm)
        self.assertIsInstance(raised(usable_claim, FRAME, "n", good, ("i", 0)), UnknownName)
        self.assertIsInstance(raised(usable_claim, FRAME, "a", good, ("x", 0)), InvalidTerm)
        self.assertIsInstance(raised(usable_claim, FRAME, "a", (("x", 0), ("n", 0)), ("i", 0)), InvalidTerm)
        self.assertIsNone(raised(usable_claim, WIDE, "c", (("n", 0), ("m", 0)), ("m", -1)))


if __name__ == "__main__":
    unittest.main()

"""[0.11], [0.12] and Part 1d: situations, and what is true in them."""

import unittest

from forkcells.base.frames import Frame
from forkcells.errors import (InvalidClaim, InvalidFrame, InvalidNumber, InvalidOperation,
                              InvalidSituation, InvalidTerm, UnknownName)
from forkcells.world.situations import Situation
from samples import (FALSE, FRAME, LONGER, Maker, SHOWN, SIXTY, TRUE, UPTO, WIDE, naive,
                     naive_failures, odd_values, raised)

EMPTY = Frame((), (), ())
MORE = Situation(WIDE, {"a": (1, 2), "b": (3, 4), "c": ()}, {"i": 1, "j": -7}, {"x": 5, "y": -5})


def value_atom(op, one, other):
    return ("val", op, one, other)


class Making(unittest.TestCase):
    def test_example(self):
        guardless = ("all", ("k",), ("and", ()), ("val", "<", ("a", "k", 0, 0), ("", 0)))
        self.assertEqual(
            [SHOWN.holds(UPTO), SHOWN.with_number("i", 3).failure(UPTO), SHOWN.value_at(("a", "j", 1, 3)),
             SHOWN.lengths, str(SHOWN), SHOWN.holds(guardless)],
            [True, (2,), 3, {"n": 3}, "a=4 0 7 | i=2 j=2 | x=5", False])

    def test_properties(self):
        self.assertEqual(MORE.frame, WIDE)
        self.assertEqual(MORE.rows, {"a": (1, 2), "b": (3, 4), "c": ()})
        self.assertEqual(MORE.positions, {"i": 1, "j": -7})
        self.assertEqual(MORE.amounts, {"x": 5, "y": -5})
        self.assertEqual(MORE.lengths, {"n": 2, "m": 0})

    def test_returned_dicts_have_ascending_keys(self):
        frame = Frame((("c", "z"), ("b", "d"), ("a", "y")), ("p", "o", "q"), ("v", "u", "w"))
        rows = {"c": (1,), "a": (), "b": (2, 3)}
        made = Situation(frame, rows, {"q": 1, "p": 2, "o": 3}, {"w": 1, "v": 2, "u": 3})
        self.assertEqual([list(made.rows), list(made.positions), list(made.amounts), list(made.lengths)],
                         [["a", "b", "c"], ["o", "p", "q"], ["u", "v", "w"], ["d", "y", "z"]])
        for other in (made.with_cell("c", 0, 9), made.with_number("p", 9), made.with_number("v", 9),
                      made.for_frame(frame)):
            self.assertEqual([list(other.rows), list(other.positions), list(other.amounts)],
                             [["a", "b", "c"], ["o", "p", "q"], ["u", "v", "w"]])
            self.assertEqual(list(other.lengths), ["d", "y", "z"])

    def test_order_of_passed_dicts_has_no_effect(self):
        other = Situation(WIDE, {"c": (), "b": (3, 4), "a": (1, 2)}, {"j": -7, "i": 1}, {"y": -5, "x": 5})
        self.assertTrue(other == MORE)
        self.assertEqual(str(other), str(MORE))

    def test_dicts_are_not_shared(self):
        rows, positions, values = {"a": (4, 0, 7)}, {"i": 2, "j": 2}, {"x": 5}
        made = Situation(FRAME, rows, positions, values)
        rows["a"], positions["i"], values["x"] = (), 9, 9
        self.assertTrue(made == SHOWN)
        made.rows["a"] = (1,)
        made.positions["i"] = 9
        made.amounts["x"] = 9
        made.lengths["n"] = 9
        made.rows.clear()
        self.assertEqual([made.rows, made.positions, made.amounts, made.lengths],
                         [{"a": (4, 0, 7)}, {"i": 2, "j": 2}, {"x": 5}, {"n": 3}])
        self.assertEqual(made.value_at(("a", "i", 0, 0)), 7)
        self.assertTrue(made.holds(UPTO))
        self.assertTrue(made == SHOWN)

    def test_does_not_change(self):
        for attribute in ("frame", "rows", "positions", "amounts", "lengths"):
            with self.assertRaises(AttributeError):
                setattr(SHOWN, attribute, {})

    def test_great_numbers(self):
        made = Situation(FRAME, {"a": (SIXTY, -SIXTY)}, {"i": SIXTY, "j": -SIXTY}, {"x": SIXTY})
        self.assertEqual(made.position_at(("i", SIXTY)), 2 * SIXTY)
        self.assertEqual(made.value_at(("a", "", 1, -SIXTY)), -2 * SIXTY)
        self.assertEqual(made.cell("a", SIXTY), 0)
        self.assertEqual(made.value_at(("a", "i", -SIXTY, 1)), SIXTY + 1)

    def test_wrong(self):
        good = [{"a": (4, 0, 7)}, {"i": 2, "j": 2}, {"x": 5}]
        wrong = [
            [{}, {"a": [4]}, {"a": 4}, {"a": (LONGER,)}, {"a": (True,)}, {"a": (None,)}, {"a": ("4",)},
             {"a": ((4,),)}, {"b": ()}, {"a": (), "b": ()}, {"n": ()}, {"a": (), "n": ()}, {1: ()},
             [("a", ())], {"a": None}, {"a": {}}, {"a": "4"}],
            [{}, {"i": 1}, {"i": 1, "j": 2, "p": 3}, {"i": 1, "p": 2}, {"i": True, "j": 2},
             {"i": 1, "j": None}, {"i": 1, "j": LONGER}, {"i": 1, "j": -LONGER}, {"i": 1, "j": (2,)},
             {"i": 1, "j": 2, "n": 3}, [1, 2], {"i": 1, None: 2}, {"i": "1", "j": 2}],
            [{}, {"y": 1}, {"x": 1, "y": 1}, {"x": False}, {"x": None}, {"x": LONGER}, {"x": "1"},
             {"x": [1]}, [5], {"x": 1, "a": 2}],
        ]
        for place in range(3):
            for value in wrong[place] + odd_values():
                made = good[:place] + [value] + good[place + 1:]
                self.assertRaises(InvalidSituation, Situation, FRAME, *made)

    def test_no_frame(self):
        for value in odd_values():
            if not isinstance(value, Frame):
                self.assertRaises(InvalidFrame, Situation, value, None, None, None)

    def test_arrays_that_share_a_length(self):
        numbers = ({"i": 0, "j": 0}, {"x": 0, "y": 0})
        self.assertEqual(len(Situation(WIDE, {"a": (1,), "b": (2,), "c": (3, 4)}, *numbers)), 4)
        self.assertRaises(InvalidSituation, Situation, WIDE, {"a": (1,), "b": (), "c": (3,)}, *numbers)
        self.assertRaises(InvalidSituation, Situation, WIDE, {"a": (), "b": (2,), "c": ()}, *numbers)
        self.assertRaises(InvalidSituation, Situation, WIDE, {"a": (1, 2), "b": (2,), "c": ()}, *numbers)

    def test_without_names(self):
        made = Situation(EMPTY, {}, {}, {})
        self.assertEqual([made.rows, made.positions, made.amounts, made.lengths, len(made), str(made)],
                         [{}, {}, {}, {}, 0, "- | - | -"])
        self.assertTrue(made.holds(TRUE))
        self.assertFalse(made.holds(FALSE))
        self.assertEqual(made.failure(("all", ("k",), TRUE, FALSE)), (-1,))


class Reading(unittest.TestCase):
    def test_cells(self):
        self.assertEqual([SHOWN.cell("a", k) for k in range(-3, 6)], [0, 0, 0, 4, 0, 7, 0, 0, 0])
        self.assertEqual(SHOWN.cell("a", SIXTY), 0)
        self.assertEqual(SHOWN.cell("a", -SIXTY), 0)
        self.assertEqual([MORE.cell(array, 1) for array in "abc"], [2, 4, 0])

    def test_cell_errors(self):
        for value in odd_values() + ["n", "i", "x", "q", ["a"]]:
            error = raised(SHOWN.cell, value, None)
            self.assertIsInstance(error, UnknownName)
            self.assertEqual(error.name, value)
        for value in (None, True, False, "0", LONGER, -LONGER, (0,), [0], FRAME, 10 ** 99):
            error = raised(SHOWN.cell, "a", value)
            self.assertIsInstance(error, InvalidNumber)
            self.assertEqual(error.number, value)

    def test_terms(self):
        self.assertEqual([MORE.position_at(term) for term in
                          (("", 3), ("i", 0), ("j", 2), ("n", 1), ("m", -1))], [3, 1, -5, 3, -1])
        self.assertEqual([MORE.value_at(term) for term in
                          (("", 3), ("x", 1), ("y", 0), ("a", "i", 0, 5), ("a", "i", 1, 5), ("b", "", 0, 0),
                           ("a", "i", -2, 0), ("b", "n", -1, 1), ("c", "", 0, 9), ("a", "m", 1, 0))],
                         [3, 6, -5, 7, 5, 3, 0, 5, 9, 2])

    def test_term_errors(self):
        for value in odd_values() + [("x", 0), ("k", 0), ("a", "i", 0, 0), ["i", 0], ("i", True), ("i", LONGER)]:
            self.assertRaises(InvalidTerm, SHOWN.position_at, value)
        for value in odd_values() + [("i", 0), ("k", 0), ("a", "k", 0, 0), ["x", 0], ("x", True), ("x", LONGER)]:
            self.assertRaises(InvalidTerm, SHOWN.value_at, value)


class Truth(unittest.TestCase):
    def test_atoms(self):
        for op, less, same, more in (("<=", True, True, False), ("<", True, False, False),
                                     ("==", False, True, False)):
            for number, expected in ((-1, less), (0, same), (1, more)):
                self.assertIs(SHOWN.holds(("pos", op, ("i", number), ("j", 0))), expected)
                self.assertIs(SHOWN.holds(("val", op, ("x", number), ("", 5))), expected)
                self.assertIs(SHOWN.holds(("val", op, ("a", "", 0, number), ("a", "i", 0, -3))), expected)

    def test_cells_outside_read_nought(self):
        for place in (-1, 3, 99, -99, SIXTY):
            self.assertTrue(SHOWN.holds(("val", "==", ("a", "", place, 0), ("", 0))))
            self.assertTrue(SHOWN.holds(("val", "==", ("a", "", place, 5), ("x", 0))))

    def test_joined(self):
        for claim, expected in (
                (TRUE, True), (FALSE, False), (("not", TRUE), False), (("not", ("not", TRUE)), True),
                (("and", (TRUE, TRUE)), True), (("and", (TRUE, FALSE)), False), (("and", (FALSE, TRUE)), False),
                (("or", (FALSE, FALSE)), False), (("or", (FALSE, TRUE)), True), (("or", (TRUE, FALSE)), True)):
            self.assertIs(SHOWN.holds(claim), expected)

    def test_alls(self):
        cell = ("a", "k", 0, 0)
        for guard, body, failure in (
                (("in", "k", ("", 0), ("n", 0)), value_atom("<", ("", 0), cell), (1,)),
                (("in", "k", ("", 2), ("n", 0)), value_atom("<", ("", 0), cell), None),
                (("in", "k", ("", 2), ("n", 1)), value_atom("<", ("", 0), cell), (3,)),
                (("in", "k", ("", -5), ("n", 0)), value_atom("<", ("", 0), cell), (-5,)),
                (("in", "k", ("i", 0), ("j", 0)), FALSE, None),
                (("in", "k", ("i", 1), ("j", 0)), FALSE, None),
                (("in", "k", ("i", 0), ("j", 1)), FALSE, (2,)),
                (("in", "k", ("i", -1), ("j", 1)), FALSE, (1,)),
                (("pos", "==", ("k", 0), ("i", 0)), value_atom("==", cell, ("", 7)), None),
                (("pos", "==", ("k", 0), ("i", 1)), value_atom("==", cell, ("", 7)), (3,)),
                (("pos", "==", ("i", -9), ("k", 0)), value_atom("==", cell, ("", 7)), (-7,)),
                (("pos", "<=", ("k", 0), ("i", 0)), value_atom("<=", cell, ("", 4)), (2,)),
                (("pos", "<=", ("k", 0), ("i", -1)), value_atom("<=", cell, ("", 4)), None),
                (("pos", "<=", ("i", 1), ("k", 0)), value_atom("==", cell, ("", 0)), None),
                (("pos", "<=", ("i", 0), ("k", 0)), value_atom("==", cell, ("", 0)), (2,)),
                (("pos", "<=", ("i", 0), ("k", 0)), FALSE, (2,)),
                (("pos", "<=", ("i", 9), ("k", 0)), FALSE, (11,)),
                (("pos", "<=", ("k", 0), ("i", -9)), FALSE, (-7,)),
                (("or", (("pos", "==", ("k", 0), ("i", 0)), ("pos", "==", ("k", 0), ("", 0)))), FALSE, (0,)),
                (("or", (("pos", "==", ("k", 0), ("i", 9)), ("pos", "==", ("k", 0), ("i", 8)))), FALSE, (10,)),
                (("and", ()), FALSE, (-1,)), (("or", ()), FALSE, None),
                (("and", ()), value_atom("<=", cell, ("", 4)), (2,)),
                (("and", ()), value_atom("<=", cell, ("", 7)), None),
                (("and", ()), value_atom("<", ("", -1), ("a", "j", 0, 0)), None),
                (("and", ()), ("not", value_atom("==", cell, ("x", 2))), (2,))):
            claim = ("all", ("k",), guard, body)
            self.assertEqual(SHOWN.failure(claim), failure, claim)
            self.assertIs(SHOWN.holds(claim), failure is None, claim)
            self.assertIs(SHOWN.holds(("not", claim)), failure is not None, claim)

    def test_two_own_names(self):
        both = ("and", (("in", "k", ("", 0), ("n", 0)), ("in", "m", ("", 0), ("n", 0)),
                        ("pos", "<=", ("k", 0), ("m", 0))))
        rising = ("all", ("k", "m"), both, value_atom("<=", ("a", "k", 0, 0), ("a", "m", 0, 0)))
        for row, failure in (((1, 2, 3), None), ((1, 3, 2), (1, 2)), ((3, 1, 2), (0, 1)), ((2, 3, 1), (0, 2)),
                             ((), None), ((2, 2), None), ((2, 2, 2, 1), (0, 3))):
            made = Situation(FRAME, {"a": row}, {"i": 0, "j": 0}, {"x": 0})
            self.assertEqual(made.failure(rising), failure)
            self.assertIs(made.holds(rising), failure is None)
            turned = ("all", ("m", "k"), both, rising[3])
            self.assertEqual(made.failure(turned) is None, failure is None)
        made = Situation(FRAME, {"a": (2, 3, 1)}, {"i": 0, "j": 0}, {"x": 0})
        self.assertEqual(made.failure(("all", ("m", "k"), both, rising[3])), (2, 0))
        self.assertEqual(made.failure(("all", ("k", "m"), ("pos", "==", ("k", 0), ("m", 0)), FALSE)), (-1, -1))
        self.assertEqual(made.failure(("all", ("k", "m"), TRUE, FALSE)), (-1, -1))
        far = ("and", (("pos", "==", ("k", 0), ("i", 7)), ("pos", "==", ("m", 0), ("i", -7))))
        self.assertEqual(made.failure(("all", ("k", "m"), far, FALSE)), (7, -7))
        self.assertEqual(made.failure(("all", ("m", "k"), far, FALSE)), (-7, 7))

    def test_failures_are_among_the_told_numbers(self):
        far = ("and", (("pos", "<=", ("i", 5), ("k", 0)), ("pos", "<=", ("k", 0), ("i", 9))))
        self.assertEqual(SHOWN.failure(("all", ("k",), far, FALSE)), (7,))
        below = ("pos", "<=", ("k", 0), ("", 4))
        self.assertEqual(SHOWN.failure(("all", ("k",), below, FALSE)), (-1,))
        made = Situation(FRAME, {"a": ()}, {"i": -5, "j": 5}, {"x": 0})
        for guard, failure in ((TRUE, (-1,)), (("in", "k", ("j", 0), ("i", 0)), None),
                               (("or", (("in", "k", ("j", 0), ("i", 0)), TRUE)), (-5,)),
                               (("pos", "<=", ("i", 1), ("k", 0)), (-4,)),
                               (("pos", "<=", ("k", 0), ("i", 0)), (-5,)),
                               (("pos", "<=", ("j", 0), ("k", 0)), (5,))):
            self.assertEqual(made.failure(("all", ("k",), guard, FALSE)), failure)

    def test_one_cell_among_many(self):
        row = [3] * 40
        for place in (0, 1, 19, 38, 39):
            row[place] = 8
            made = Situation(FRAME, {"a": tuple(row)}, {"i": 40, "j": 0}, {"x": 5})
            self.assertEqual(made.failure(UPTO), (place,))
            row[place] = 3
        made = Situation(FRAME, {"a": tuple(row)}, {"i": 41, "j": 0}, {"x": -1})
        self.assertEqual(made.failure(UPTO), (0,))
        gap = ("all", ("k",), ("in", "k", ("", 7), ("", 9)), value_atom("<", ("a", "k", 0, 0), ("", 0)))
        self.assertEqual(made.failure(gap), (7,))

    def test_numbers_that_differ_by_very_much(self):
        made = Situation(FRAME, {"a": (4, 0, 7)}, {"i": SIXTY, "j": -SIXTY}, {"x": 5})
        self.assertEqual(made.failure(UPTO), (2,))
        self.assertEqual(made.with_number("x", 7).failure(UPTO), None)
        self.assertEqual(made.with_number("x", -1).failure(UPTO), (0,))
        whole = ("in", "k", ("j", -SIXTY), ("i", SIXTY))
        for body, failure in ((FALSE, (-2 * SIXTY,)), (value_atom("==", ("a", "k", 0, 0), ("", 0)), (0,)),
                              (value_atom("<=", ("", 0), ("a", "k", 0, 0)), None),
                              (("not", value_atom("==", ("a", "k", 0, 0), ("", 7))), (2,))):
            self.assertEqual(made.failure(("all", ("k",), whole, body)), failure)
        inner = ("and", (("pos", "<=", ("j", 1), ("k", 0)), ("pos", "<=", ("k", 0), ("i", -1))))
        self.assertEqual(made.failure(("all", ("k",), inner, FALSE)), (1 - SIXTY,))
        two = ("and", (("in", "k", ("", 5), ("i", 0)), ("in", "m", ("j", 0), ("i", 0)), ("pos", "<=", ("k", 0), ("m", 0))))
        self.assertEqual(made.failure(("all", ("k", "m"), two, FALSE)), (5, 5))
        self.assertEqual(made.failure(("all", ("m", "k"), two, FALSE)), (5, 5))
        body = value_atom("<=", ("a", "m", 0, 0), ("a", "k", 0, 0))
        self.assertEqual(made.failure(("all", ("k", "m"), two, body)), None)

    def test_as_told_by_the_definition(self):
        for seed, frame in ((21, FRAME), (22, WIDE), (23, EMPTY), (24, Frame((("a", "n"), ("c", "m")), (), ()))):
            maker = Maker(frame, seed)
            for _ in range(250):
                claim, situation = maker.claim(), maker.situation()
                self.assertIs(situation.holds(claim), naive(situation, claim), (str(situation), claim))

    def test_failures_by_the_definition(self):
        for seed, frame in ((25, FRAME), (26, WIDE)):
            maker = Maker(frame, seed)
            for _ in range(400):
                claim, situation = maker.all(), maker.situation()
                found = naive_failures(situation, claim)
                self.assertEqual(situation.failure(claim), found[0] if found else None, (str(situation), claim))

    def test_errors(self):
        for value in odd_values() + [("in", "k", ("", 0), ("i", 0)), ["and", ()], ("all", ("i",), TRUE, TRUE)]:
            self.assertRaises(InvalidClaim, SHOWN.holds, value)
            self.assertRaises(InvalidClaim, SHOWN.failure, value)
        for claim in (TRUE, ("not", UPTO), ("pos", "<", ("i", 0), ("j", 0)), ("and", (UPTO,))):
            self.assertRaises(InvalidOperation, SHOWN.failure, claim)


class Others(unittest.TestCase):
    def test_with_cell(self):
        self.assertEqual(SHOWN.with_cell("a", 1, -9).rows, {"a": (4, -9, 7)})
        self.assertEqual(SHOWN.with_cell("a", 0, SIXTY).rows, {"a": (SIXTY, 0, 7)})
        self.assertEqual(SHOWN.with_cell("a", 2, 0).value_at(("a", "i", 0, 1)), 1)
        self.assertEqual(MORE.with_cell("b", 0, 9).rows, {"a": (1, 2), "b": (9, 4), "c": ()})
        self.assertEqual(SHOWN.rows, {"a": (4, 0, 7)})

    def test_with_cell_errors(self):
        for value in odd_values() + ["n", "i", "x", ["a"]]:
            error = raised(SHOWN.with_cell, value, None, None)
            self.assertIsInstance(error, UnknownName)
            self.assertEqual(error.name, value)
        for value in (-1, 3, 4, None, True, False, "0", LONGER, (0,), [], FRAME):
            error = raised(SHOWN.with_cell, "a", value, None)
            self.assertIsInstance(error, InvalidNumber)
            self.assertEqual(error.number, value)
        self.assertIsInstance(raised(MORE.with_cell, "c", 0, 0), InvalidNumber)
        for value in (None, True, False, "0", LONGER, -LONGER, (0,), [], FRAME):
            self.assertRaises(InvalidSituation, SHOWN.with_cell, "a", 0, value)

    def test_with_number(self):
        self.assertEqual(SHOWN.with_number("i", -9).positions, {"i": -9, "j": 2})
        self.assertEqual(SHOWN.with_number("x", SIXTY).amounts, {"x": SIXTY})
        self.assertEqual(SHOWN.with_number("j", 0).value_at(("a", "j", 0, 0)), 4)
        self.assertEqual((SHOWN.positions, SHOWN.amounts), ({"i": 2, "j": 2}, {"x": 5}))
        self.assertEqual(SHOWN.with_number("x", 1).positions, SHOWN.positions)

    def test_with_number_errors(self):
        for value in odd_values() + ["n", "a", "k", ["i"], ("i",)]:
            error = raised(SHOWN.with_number, value, None)
            self.assertIsInstance(error, UnknownName)
            self.assertEqual(error.name, value)
        for value in (None, True, False, "0", LONGER, -LONGER, (0,), [], FRAME):
            self.assertRaises(InvalidSituation, SHOWN.with_number, "i", value)
            self.assertRaises(InvalidSituation, SHOWN.with_number, "x", value)

    def test_for_frame(self):
        less = Frame((("c", "m"), ("a", "n")), ("j",), ("y",))
        made = MORE.for_frame(less)
        self.assertEqual((made.frame, str(made)), (less, "c=- a=1 2 | j=-7 | y=-5"))
        self.assertEqual(made.lengths, {"m": 0, "n": 2})
        self.assertEqual(str(MORE.for_frame(EMPTY)), "- | - | -")
        self.assertTrue(MORE.for_frame(WIDE) == MORE)
        turned = Frame((("c", "m"), ("b", "n"), ("a", "n")), ("j", "i"), ("y", "x"))
        self.assertEqual(str(MORE.for_frame(turned)), "c=- b=3 4 a=1 2 | j=-7 i=1 | y=-5 x=5")
        self.assertIs(MORE.for_frame(turned) == MORE, False)

    def test_for_frame_errors(self):
        for frame in (Frame((), ("p",), ()), Frame((), ("x",), ()), Frame((), (), ("i",)), Frame((), (), ("v",)),
                      Frame((("d", "n"),), (), ()), Frame((("a", "m"),), (), ()), Frame((("a", "l"),), (), ()),
                      Frame((("i", "n"),), (), ()), Frame((), ("a",), ()), Frame((), ("n",), ()),
                      Frame((("n", "a"),), (), ()), Frame((), ("i", "p"), ()), Frame((), (), ("a",))):
            self.assertRaises(InvalidOperation, MORE.for_frame, frame)
        for value in odd_values():
            if not isinstance(value, Frame):
                self.assertRaises(InvalidFrame, MORE.for_frame, value)

    def test_equality(self):
        same = Situation(FRAME, {"a": (4, 0, 7)}, {"i": 2, "j": 2}, {"x": 5})
        self.assertIs(SHOWN == same, True)
        self.assertIs(SHOWN != same, False)
        turned = Frame((("a", "n"),), ("j", "i"), ("x",))
        for other in (SHOWN.with_cell("a", 1, 1), SHOWN.with_number("i", 3), SHOWN.with_number("j", 3),
                      SHOWN.with_number("x", 4), SHOWN.for_frame(turned),
                      Situation(FRAME, {"a": (4, 0)}, {"i": 2, "j": 2}, {"x": 5})):
            self.assertIs(SHOWN == other, False)
            self.assertIs(SHOWN != other, True)
        self.assertTrue(SHOWN.with_cell("a", 1, 1).with_cell("a", 1, 0) == SHOWN)
        for value in odd_values() + [str(SHOWN), SHOWN.rows]:
            if not isinstance(value, Situation):
                self.assertIs(SHOWN == value, False)
                self.assertIs(SHOWN != value, True)

    def test_len(self):
        self.assertEqual([len(SHOWN), len(MORE), len(SHOWN.for_frame(EMPTY))], [3, 4, 0])

    def test_str(self):
        self.assertEqual(str(MORE), "a=1 2 b=3 4 c=- | i=1 j=-7 | x=5 y=-5")
        self.assertEqual(str(Situation(FRAME, {"a": (4, 0, -1)}, {"i": 1, "j": 2}, {"x": 5})),
                         "a=4 0 -1 | i=1 j=2 | x=5")
        frame = Frame((("z", "n"), ("b", "n")), ("q", "p"), ())
        self.assertEqual(str(Situation(frame, {"b": (2,), "z": (1,)}, {"p": 3, "q": 4}, {})),
                         "z=1 b=2 | q=4 p=3 | -")

    def test_not_iterated(self):
        self.assertRaises(TypeError, iter, SHOWN)

    def test_elder_situations_stay(self):
        elder = Situation(FRAME, {"a": (4, 0, 7)}, {"i": 2, "j": 2}, {"x": 5})
        elder.with_cell("a", 0, 1), elder.with_number("i", 0), elder.for_frame(EMPTY), elder.failure(UPTO)
        self.assertTrue(elder == SHOWN)
        self.assertEqual(str(elder), "a=4 0 7 | i=2 j=2 | x=5")


if __name__ == "__main__":
    unittest.main()

"""[0.7], [0.8] and Part 1b: names, frames and terms."""

import unittest

from forkcells.base.frames import Frame, is_name
from forkcells.errors import (InvalidFrame, InvalidNumber, InvalidOperation, InvalidTerm,
                              UnknownName)
from samples import FRAME, LONGER, SIXTY, WIDE, odd_values, raised

LETTERS = "abcdefghijklmnopqrstuvwxyz"


def many_names(many, first):
    return [first + letter for letter in LETTERS[:many]]


def arrays_of(many):
    return tuple([("a" + letter, "l" + letter) for letter in LETTERS[:many]])


class Names(unittest.TestCase):
    def test_one_to_eight_letters(self):
        for name in list(LETTERS) + ["ab", "abcdefg", "abcdefgh", "zzzzzzzz", "all", "not", "in"]:
            self.assertIs(is_name(name), True, name)

    def test_other_lengths_and_signs(self):
        wrong = ["", "abcdefghi", "a" * 100000, "A", "aB", "a1", "1", "a_b", "_", "a ", " a", "a\n",
                 "\n", "a-b", "*1", "*", "`", "{", "~", "a.b", "a" * 7 + "Z", "Zaaaaaaa"]
        for name in wrong:
            self.assertIs(is_name(name), False, name[:20])

    def test_all_other_values(self):
        for value in odd_values():
            self.assertIs(is_name(value), False, repr(value)[:60])
        self.assertIs(is_name(("a",)), False)
        self.assertIs(is_name(["a"]), False)


class Making(unittest.TestCase):
    def test_example(self):
        self.assertEqual(
            [FRAME.lengths, FRAME.kind_of("j"), FRAME.is_value_term(("a", "i", 2, -1)),
             FRAME.is_position_term(("x", 0)), FRAME.shifted(("a", "i", 2, -1), 3), str(FRAME),
             len(FRAME)],
            [("n",), "position", True, False, ("a", "i", 2, 2), "a:n | i j | x", 5])

    def test_properties(self):
        self.assertEqual(WIDE.arrays, (("a", "n"), ("b", "n"), ("c", "m")))
        self.assertEqual(WIDE.positions, ("i", "j"))
        self.assertEqual(WIDE.amounts, ("x", "y"))
        self.assertEqual(WIDE.lengths, ("n", "m"))
        mixed = Frame((("b", "z"), ("a", "y"), ("c", "z"), ("d", "a" * 8)), (), ())
        self.assertEqual(mixed.lengths, ("z", "y", "aaaaaaaa"))
        empty = Frame((), (), ())
        self.assertEqual([empty.arrays, empty.positions, empty.amounts, empty.lengths],
                         [(), (), (), ()])

    def test_at_most_twelve_arrays(self):
        self.assertEqual(len(Frame(arrays_of(12), (), ())), 24)
        self.assertRaises(InvalidFrame, Frame, arrays_of(13), (), ())
        shared = tuple([(array, "n") for array, _ in arrays_of(12)])
        self.assertEqual(len(Frame(shared, (), ())), 13)
        shared = tuple([(array, "n") for array, _ in arrays_of(13)])
        self.assertRaises(InvalidFrame, Frame, shared, (), ())

    def test_at_most_eight_positions(self):
        self.assertEqual(len(Frame((), tuple(many_names(8, "p")), ())), 8)
        self.assertRaises(InvalidFrame, Frame, (), tuple(many_names(9, "p")), ())

    def test_at_most_six_values(self):
        self.assertEqual(len(Frame((), (), tuple(many_names(6, "v")))), 6)
        self.assertRaises(InvalidFrame, Frame, (), (), tuple(many_names(7, "v")))

    def test_all_of_each_kind_at_once(self):
        frame = Frame(arrays_of(12), tuple(many_names(8, "p")), tuple(many_names(6, "v")))
        self.assertEqual(len(frame), 38)

    def test_names_of_each_kind_are_names(self):
        for good in ("a", "abcdefgh"):
            for made in (((("q", good),), (), ()), (((good, "q"),), (), ()), ((), (good,), ()),
                         ((), (), (good,))):
                self.assertIsInstance(Frame(*made), Frame)
        for bad in ("", "abcdefghi", "A", "a1", "a b", 1, None, True, ("a",), ["a"], FRAME):
            for made in (((("q", bad),), (), ()), (((bad, "q"),), (), ()), ((), (bad,), ()),
                         ((), (), (bad,))):
                self.assertRaises(InvalidFrame, Frame, *made)

    def test_a_name_stands_once(self):
        twice = [
            ((("a", "n"), ("a", "n")), (), ()), ((("a", "n"), ("a", "m")), (), ()),
            ((("a", "a"),), (), ()), ((("a", "n"), ("n", "m")), (), ()),
            ((("n", "m"), ("a", "n")), (), ()), ((("a", "n"),), ("a",), ()),
            ((("a", "n"),), ("n",), ()), ((("a", "n"),), (), ("a",)), ((("a", "n"),), (), ("n",)),
            ((), ("i", "i"), ()), ((), ("i", "j", "i"), ()), ((), ("i",), ("i",)),
            ((), (), ("x", "x")), ((), (), ("x", "y", "x")),
            ((("a", "n"), ("b", "n")), (), ("n",)), ((("a", "n"), ("b", "n")), ("n",), ()),
        ]
        for made in twice:
            self.assertRaises(InvalidFrame, Frame, *made)

    def test_arrays_can_share_a_length(self):
        frame = Frame((("a", "n"), ("b", "m"), ("c", "n")), (), ())
        self.assertEqual((frame.lengths, len(frame)), (("n", "m"), 5))

    def test_wrong_forms(self):
        for value in odd_values():
            if value == ():
                continue
            for place in range(3):
                made = [(), (), ()]
                made[place] = value
                self.assertRaises(InvalidFrame, Frame, *made)
        for arrays in ([("a", "n")], (["a", "n"],), (("a",),), (("a", "n", "m"),), ("an",),
                       {"a": "n"}, ("a", "n"), ((("a",), "n"),)):
            self.assertRaises(InvalidFrame, Frame, arrays, (), ())
        self.assertRaises(InvalidFrame, Frame, (), ["i"], ())
        self.assertRaises(InvalidFrame, Frame, (), "i", ())
        self.assertRaises(InvalidFrame, Frame, (), {"i": 1}, ())
        self.assertRaises(InvalidFrame, Frame, (), (), ["x"])
        self.assertRaises(InvalidFrame, Frame, (), (), "x")


class Asking(unittest.TestCase):
    def test_length_of(self):
        self.assertEqual([WIDE.length_of(array) for array in "abc"], ["n", "n", "m"])
        for value in odd_values() + ["n", "m", "i", "x", "q", ["a"], ("a",)]:
            error = raised(WIDE.length_of, value)
            self.assertIsInstance(error, UnknownName)
            self.assertEqual(error.name, value)

    def test_kind_of(self):
        kinds = [WIDE.kind_of(word) for word in ("a", "c", "n", "m", "i", "j", "x", "y")]
        self.assertEqual(kinds, ["array", "array", "length", "length", "position", "position",
                                 "value", "value"])
        for value in odd_values() + ["q", "", ["a"], ("a",)]:
            error = raised(WIDE.kind_of, value)
            self.assertIsInstance(error, UnknownName)
            self.assertEqual(error.name, value)

    def test_is_fresh(self):
        for word in ("k", "abcdefgh", "all"):
            self.assertIs(FRAME.is_fresh(word), True)
        for word in ["a", "n", "i", "j", "x", "", "abcdefghi", "K", "k1"] + odd_values():
            self.assertIs(FRAME.is_fresh(word), False)

    def test_contains(self):
        for word in ("a", "n", "i", "j", "x"):
            self.assertIs(word in FRAME, True)
        for word in ["k", "", ["a"], ("a",), {"a": 1}] + odd_values():
            self.assertIs(word in FRAME, False)

    def test_len(self):
        self.assertEqual([len(Frame((), (), ())), len(WIDE)], [0, 9])

    def test_equality(self):
        self.assertIs(FRAME == Frame((("a", "n"),), ("i", "j"), ("x",)), True)
        self.assertIs(FRAME != Frame((("a", "n"),), ("i", "j"), ("x",)), False)
        others = [Frame((("b", "n"),), ("i", "j"), ("x",)), Frame((("a", "m"),), ("i", "j"), ("x",)),
                  Frame((("a", "n"),), ("j", "i"), ("x",)), Frame((("a", "n"),), ("i", "j"), ("y",)),
                  Frame((("a", "n"),), ("i",), ("x",)), Frame((), ("i", "j"), ("x",)),
                  Frame((("a", "n"),), ("i", "j"), ())]
        for other in others:
            self.assertIs(FRAME == other, False)
            self.assertIs(FRAME != other, True)
        self.assertFalse(Frame((("a", "n"), ("b", "n")), (), ()) ==
                         Frame((("b", "n"), ("a", "n")), (), ()))
        for value in odd_values():
            if not isinstance(value, Frame):
                self.assertIs(FRAME == value, False)
                self.assertIs(FRAME != value, True)
        self.assertIs(FRAME == FRAME.arrays, False)

    def test_str(self):
        self.assertEqual(str(Frame((("a", "n"), ("b", "n")), ("i", "j"), ("x",))),
                         "a:n b:n | i j | x")
        self.assertEqual(str(Frame((), (), ())), "- | - | -")
        self.assertEqual(str(Frame((), ("p",), ())), "- | p | -")
        self.assertEqual(str(Frame((("z", "b"), ("c", "a")), (), ("y", "x"))), "z:b c:a | - | y x")

    def test_not_iterated(self):
        self.assertRaises(TypeError, iter, FRAME)
        self.assertRaises(TypeError, list, FRAME)

    def test_does_not_change(self):
        for attribute in ("arrays", "positions", "amounts", "lengths"):
            with self.assertRaises(AttributeError):
                setattr(FRAME, attribute, ())


class Terms(unittest.TestCase):
    def test_position_terms(self):
        for word in ("", "i", "j", "n"):
            for number in (0, 1, -1, SIXTY, -SIXTY):
                self.assertIs(FRAME.is_position_term((word, number)), True)

    def test_no_position_terms(self):
        for word in ("a", "x", "k", "q", "I", "*1", None, 1, True, [], ["i"], ("i",), FRAME):
            self.assertIs(FRAME.is_position_term((word, 0)), False)
        for number in (LONGER, -LONGER, 10 ** 99, True, False, None, "1", (1,), [1]):
            for word in ("", "i", "n"):
                self.assertIs(FRAME.is_position_term((word, number)), False)
        for value in odd_values() + [["i", 0], ("i",), ("i", 0, 0), "i", ("i", "0"), {"i": 0},
                                     ("a", "i", 0, 0), ("i", 0, 0, 0)]:
            self.assertIs(FRAME.is_position_term(value), False)

    def test_value_terms(self):
        for number in (0, 5, -5, SIXTY, -SIXTY):
            for word in ("", "x"):
                self.assertIs(FRAME.is_value_term((word, number)), True)
            for word in ("", "i", "j", "n"):
                self.assertIs(FRAME.is_value_term(("a", word, 0, number)), True)
                self.assertIs(FRAME.is_value_term(("a", word, number, 0)), True)

    def test_no_value_terms(self):
        for word in ("a", "i", "n", "k", "X", None, 1, True, [], ["x"], FRAME):
            self.assertIs(FRAME.is_value_term((word, 0)), False)
        for word in ("", "i", "n", "x", "k", "A", None, 1, [], ["a"]):
            self.assertIs(FRAME.is_value_term((word, "i", 0, 0)), False)
        for word in ("a", "x", "k", None, 1, [], ["i"], FRAME):
            self.assertIs(FRAME.is_value_term(("a", word, 0, 0)), False)
        for number in (LONGER, -LONGER, True, False, None, "1", [1]):
            self.assertIs(FRAME.is_value_term(("x", number)), False)
            self.assertIs(FRAME.is_value_term(("", number)), False)
            self.assertIs(FRAME.is_value_term(("a", "i", number, 0)), False)
            self.assertIs(FRAME.is_value_term(("a", "i", 0, number)), False)
        for value in odd_values() + [["x", 0], ["a", "i", 0, 0], ("x",), ("a", "i", 0),
                                     ("a", "i", 0, 0, 0), ("a", ("i", 0), 0), ("a", ["i", 0], 0, 0)]:
            self.assertIs(FRAME.is_value_term(value), False)

    def test_own_names_count_as_positions(self):
        self.assertIs(FRAME.is_position_term(("k", 3), own=("k",)), True)
        self.assertIs(FRAME.is_position_term(("k", 3), own=("m", "k")), True)
        self.assertIs(FRAME.is_position_term(("k", 3), own=("m",)), False)
        self.assertIs(FRAME.is_position_term(("k", True), own=("k",)), False)
        self.assertIs(FRAME.is_position_term(("i", 3), own=("k",)), True)
        self.assertIs(FRAME.is_value_term(("a", "k", 3, 1), own=("k",)), True)
        self.assertIs(FRAME.is_value_term(("a", "k", 3, 1), own=("m", "k")), True)
        self.assertIs(FRAME.is_value_term(("a", "k", 3, 1)), False)
        self.assertIs(FRAME.is_value_term(("k", 3), own=("k",)), False)
        self.assertIs(FRAME.is_value_term(("k", "i", 0, 3), own=("k",)), False)

    def test_wrong_own_names(self):
        wrong = [("k", "k"), ("i",), ("a",), ("n",), ("x",), ("k", "l", "m"), ("k", "i"), ("",),
                 ("K",), ["k"], "k", None, {"k": 1}, (1,), (["k"],), ("k", None)]
        for own in wrong + [value for value in odd_values() if value != ()]:
            for value in (("i", 0), ("k", 0), None):
                self.assertRaises(InvalidTerm, FRAME.is_position_term, value, own=own)
                self.assertRaises(InvalidTerm, FRAME.is_value_term, value, own=own)

    def test_shifted(self):
        self.assertEqual(FRAME.shifted(("i", 2), 3), ("i", 5))
        self.assertEqual(FRAME.shifted(("", 2), -3), ("", -1))
        self.assertEqual(FRAME.shifted(("x", 2), 0), ("x", 2))
        self.assertEqual(FRAME.shifted(("n", SIXTY), -SIXTY), ("n", 0))
        self.assertEqual(FRAME.shifted(("a", "i", 4, 2), 3), ("a", "i", 4, 5))
        self.assertEqual(FRAME.shifted(("i", SIXTY - 1), 1), ("i", SIXTY))
        self.assertEqual(FRAME.shifted(("a", "i", SIXTY, -SIXTY), SIXTY), ("a", "i", SIXTY, 0))

    def test_shifted_too_far(self):
        self.assertRaises(InvalidTerm, FRAME.shifted, ("i", SIXTY), 1)
        self.assertRaises(InvalidTerm, FRAME.shifted, ("", -SIXTY), -1)
        self.assertRaises(InvalidTerm, FRAME.shifted, ("a", "i", 0, SIXTY), SIXTY)

    def test_shifted_errors_in_order(self):
        for value in odd_values() + [("k", 0), ("a", 0), ["i", 0]]:
            self.assertRaises(InvalidTerm, FRAME.shifted, value, 1)
            self.assertRaises(InvalidTerm, FRAME.shifted, value, "no")
        for shift in (True, False, None, "1", LONGER, -LONGER, (1,), [], FRAME):
            error = raised(FRAME.shifted, ("i", SIXTY), shift)
            self.assertIsInstance(error, InvalidNumber)
            self.assertEqual(error.number, shift)


class Others(unittest.TestCase):
    def test_with_names(self):
        frame = FRAME.with_names(arrays=(("b", "m"), ("c", "n")), positions=("p",), values=("y",))
        self.assertEqual(frame, Frame((("a", "n"), ("b", "m"), ("c", "n")), ("i", "j", "p"),
                                      ("x", "y")))
        self.assertEqual(FRAME.with_names(), FRAME)
        self.assertEqual(FRAME.with_names(positions=("p",)).positions, ("i", "j", "p"))
        self.assertEqual(FRAME.with_names(values=("v",)).amounts, ("x", "v"))
        self.assertEqual(str(FRAME), "a:n | i j | x")

    def test_with_wrong_names(self):
        for value in odd_values():
            if value == ():
                continue
            self.assertRaises(InvalidFrame, FRAME.with_names, arrays=value)
            self.assertRaises(InvalidFrame, FRAME.with_names, positions=value)
            self.assertRaises(InvalidFrame, FRAME.with_names, values=value)
        for more in ({"arrays": [("b", "m")]}, {"positions": ["p"]}, {"values": ["v"]},
                     {"positions": ("i",)}, {"values": ("i",)}, {"arrays": (("a", "m"),)},
                     {"arrays": (("i", "m"),)}, {"arrays": (("b", "x"),)}, {"positions": "p"},
                     {"positions": ("p",), "values": ("p",)}, {"arrays": ()  , "values": ("n",)},
                     {"positions": tuple(many_names(7, "p"))}, {"values": tuple(many_names(6, "v"))},
                     {"arrays": arrays_of(12)}):
            self.assertRaises(InvalidFrame, FRAME.with_names, **more)

    def test_keywords_only(self):
        self.assertRaises(TypeError, FRAME.with_names, (("b", "m"),))
        self.assertRaises(TypeError, FRAME.is_position_term, ("i", 0), ())

    def test_renamed(self):
        self.assertEqual(FRAME.renamed({}), FRAME)
        self.assertEqual(FRAME.renamed({"a": "b", "n": "m", "i": "p", "x": "v"}),
                         Frame((("b", "m"),), ("p", "j"), ("v",)))
        self.assertEqual(FRAME.renamed({"i": "j", "j": "i"}), Frame((("a", "n"),), ("j", "i"), ("x",)))
        self.assertEqual(FRAME.renamed({"a": "n", "n": "x", "x": "a"}),
                         Frame((("n", "x"),), ("i", "j"), ("a",)))
        self.assertEqual(FRAME.renamed({"i": "i"}), FRAME)
        self.assertEqual(WIDE.renamed({"n": "k"}).arrays, (("a", "k"), ("b", "k"), ("c", "m")))
        self.assertEqual(WIDE.renamed({"n": "m", "m": "n"}).arrays,
                         (("a", "m"), ("b", "m"), ("c", "n")))

    def test_renamed_by_no_such_dict(self):
        wrong = [{"q": "z"}, {"i": "j"}, {"i": "x"}, {"i": "a"}, {"i": "n"}, {"i": "I"}, {"i": ""},
                 {"i": 1}, {"i": None}, {"i": ["p"]}, {"i": "abcdefghi"}, {"i": "p", "j": "p"},
                 {1: "p"}, {None: "p"}, {("i",): "p"}, {"": "p"}, {"i": "p", "q": "z"}, [], (),
                 [("i", "p")], (("i", "p"),), "ip", None, True, {"i": FRAME}]
        for names in wrong + [value for value in odd_values() if value != {}]:
            self.assertRaises(InvalidOperation, FRAME.renamed, names)

    def test_lengths_do_not_become_one(self):
        self.assertRaises(InvalidOperation, WIDE.renamed, {"n": "m"})
        self.assertRaises(InvalidOperation, WIDE.renamed, {"n": "z", "m": "z"})

    def test_arguments_and_results_are_not_shared(self):
        names = {"i": "p"}
        made = FRAME.renamed(names)
        names["i"] = "q"
        self.assertEqual(made.positions, ("p", "j"))
        self.assertEqual(names, {"i": "q"})


if __name__ == "__main__":
    unittest.main()

"""Part 1c: what makes claims out of claims and terms."""

import unittest

from forkcells.base.frames import Frame
from forkcells.errors import InvalidClaim, InvalidFrame, InvalidOperation, InvalidTerm, UnknownName
from forkcells.logic.claims import (all_between, carried, inside_claim, is_claim, renamed_claim,
                                    replaced, used_at)
from forkcells.world.situations import Situation
from samples import (FALSE, FRAME, LONGER, Maker, NEXT, SHOWN, SIXTY, TRUE, UPTO, WIDE, naive,
                     odd_values, raised)

TARGET = Frame((("b", "k"),), ("p",), ())
EXAMPLE_TERMS = {"i": ("p", 1), "j": ("", 0), "x": ("b", "p", 0, 2)}


def position_atom(one, other):
    return ("pos", "<=", one, other)


def value_atom(one, other):
    return ("val", "<=", one, other)


class Replaced(unittest.TestCase):
    def test_numbers_are_added(self):
        claim = position_atom(("i", 2), ("n", 0))
        self.assertEqual(replaced(FRAME, claim, {"i": ("j", 3)}), position_atom(("j", 5), ("n", 0)))
        self.assertEqual(replaced(FRAME, claim, {"i": ("", -3)}), position_atom(("", -1), ("n", 0)))
        self.assertEqual(replaced(FRAME, claim, {"i": ("n", 1)}), position_atom(("n", 3), ("n", 0)))
        self.assertEqual(replaced(FRAME, claim, {"i": ("i", 1)}), position_atom(("i", 3), ("n", 0)))

    def test_cells(self):
        claim = value_atom(("x", 2), ("a", "i", 2, 7))
        self.assertEqual(replaced(FRAME, claim, {"i": ("j", 3)}), value_atom(("x", 2), ("a", "j", 5, 7)))
        self.assertEqual(replaced(FRAME, claim, {"x": ("a", "j", 1, 3)}),
                         value_atom(("a", "j", 1, 5), ("a", "i", 2, 7)))
        self.assertEqual(replaced(FRAME, claim, {"x": ("", 3)}), value_atom(("", 5), ("a", "i", 2, 7)))
        self.assertEqual(replaced(FRAME, claim, {"i": ("", 4)}), value_atom(("x", 2), ("a", "", 6, 7)))

    def test_all_at_once(self):
        claim = ("and", (position_atom(("i", 1), ("j", 2)), value_atom(("x", 0), ("a", "i", 0, 0))))
        self.assertEqual(
            replaced(FRAME, claim, {"i": ("j", 1), "j": ("i", 1), "x": ("a", "i", 0, 0)}),
            ("and", (position_atom(("j", 2), ("i", 3)), value_atom(("a", "i", 0, 0), ("a", "j", 1, 0)))))

    def test_each_form(self):
        claim = ("not", ("or", (UPTO, ("all", ("k", "m"), ("and", (
            ("pos", "==", ("k", 0), ("i", 1)), ("or", (("pos", "<=", ("j", 0), ("m", 0)),)))), ("not", ("and", (
                value_atom(("a", "m", 0, 1), ("x", 2)), value_atom(("a", "i", 3, 4), ("a", "k", 0, 0)))))))))
        expected = ("not", ("or", (
            ("all", ("k",), ("in", "k", ("", 0), ("j", 5)), value_atom(("a", "k", 0, 0), ("", 9))),
            ("all", ("k", "m"), ("and", (("pos", "==", ("k", 0), ("j", 6)), ("or", (
                ("pos", "<=", ("n", -1), ("m", 0)),)))), ("not", ("and", (
                    value_atom(("a", "m", 0, 1), ("", 11)), value_atom(("a", "j", 8, 4), ("a", "k", 0, 0)))))))))
        terms = {"i": ("j", 5), "j": ("n", -1), "x": ("", 9)}
        self.assertEqual(replaced(FRAME, claim, terms), expected)
        self.assertEqual(terms, {"i": ("j", 5), "j": ("n", -1), "x": ("", 9)})

    def test_low_of_in(self):
        claim = ("all", ("k",), ("in", "k", ("i", 1), ("i", 2)), TRUE)
        self.assertEqual(replaced(FRAME, claim, {"i": ("n", 1)}),
                         ("all", ("k",), ("in", "k", ("n", 2), ("n", 3)), TRUE))

    def test_nothing_to_replace(self):
        self.assertEqual(replaced(FRAME, UPTO, {}), UPTO)
        self.assertEqual(replaced(FRAME, UPTO, {"j": ("n", 0)}), UPTO)

    def test_no_such_dict(self):
        for terms in ([], (), None, {"n": ("i", 0)}, {"a": ("i", 0)}, {"q": ("i", 0)}, {"k": ("i", 0)},
                      {"i": ("x", 0)}, {"i": ("a", "i", 0, 0)}, {"x": ("i", 0)}, {"x": ("n", 0)},
                      {"i": ("k", 0)}, {"x": ("a", "k", 0, 0)}, {"i": ["j", 0]}, {"i": ("j", True)},
                      {"i": "j"}, {"i": ("j", LONGER)}, {"x": ("y", 0)}, {"": ("i", 0)}, {1: ("i", 0)},
                      {("i",): ("i", 0)}, {None: 1}, {"i": ("j", 0), "q": ("j", 0)}, {"x": ("", None)}):
            self.assertRaises(InvalidOperation, replaced, FRAME, UPTO, terms)
        for terms in odd_values():
            if terms != {}:
                self.assertRaises(InvalidOperation, replaced, FRAME, UPTO, terms)

    def test_result_is_no_claim(self):
        claim = position_atom(("i", SIXTY), ("j", 0))
        self.assertEqual(replaced(FRAME, claim, {"i": ("n", 0)}), position_atom(("n", SIXTY), ("j", 0)))
        self.assertRaises(InvalidOperation, replaced, FRAME, claim, {"i": ("i", 1)})
        self.assertRaises(InvalidOperation, replaced, FRAME, value_atom(("x", -1), ("", 0)), {"x": ("x", -SIXTY)})
        self.assertRaises(InvalidOperation, replaced, FRAME, value_atom(("a", "i", 1, 0), ("", 0)),
                          {"i": ("j", SIXTY)})

    def test_means_the_same(self):
        maker = Maker(WIDE, 11)
        for _ in range(150):
            claim, situation = maker.claim(), maker.situation()
            terms = {"i": maker.place(), "x": maker.amount()}
            moved = situation.with_number("i", situation.position_at(terms["i"]))
            moved = moved.with_number("x", situation.value_at(terms["x"]))
            self.assertEqual(naive(situation, replaced(WIDE, claim, terms)), naive(moved, claim))


class Carried(unittest.TestCase):
    def test_example(self):
        self.assertEqual(
            carried(FRAME, UPTO, TARGET, {"a": "b"}, EXAMPLE_TERMS),
            ("all", ("kk",), ("in", "kk", ("", 0), ("p", 1)), value_atom(("b", "kk", 0, 0), ("b", "p", 0, 2))))

    def test_lengths_go_with_the_arrays(self):
        claim = ("and", (position_atom(("n", 1), ("m", 2)), value_atom(("a", "n", 3, 4), ("c", "m", 5, 6))))
        target = Frame((("e", "l"), ("d", "h"), ("f", "l")), (), ())
        terms = {"i": ("l", 0), "j": ("", 1), "x": ("", 2), "y": ("d", "h", 0, 0)}
        self.assertEqual(
            carried(WIDE, claim, target, {"a": "e", "b": "f", "c": "d"}, terms),
            ("and", (position_atom(("l", 1), ("h", 2)), value_atom(("e", "l", 3, 4), ("d", "h", 5, 6)))))
        self.assertEqual(
            carried(WIDE, claim, target, {"a": "d", "b": "d", "c": "d"}, terms),
            ("and", (position_atom(("h", 1), ("h", 2)), value_atom(("d", "h", 3, 4), ("d", "h", 5, 6)))))

    def test_to_the_same_frame_with_names_exchanged(self):
        claim = ("and", (position_atom(("i", 1), ("j", 2)), value_atom(("a", "i", 3, 4), ("b", "n", 5, 6)),
                         ("val", "<", ("x", 1), ("y", 2))))
        terms = {"i": ("j", 0), "j": ("i", 0), "x": ("y", 0), "y": ("x", 0)}
        self.assertEqual(
            carried(WIDE, claim, WIDE, {"a": "b", "b": "a", "c": "c"}, terms),
            ("and", (position_atom(("j", 1), ("i", 2)), value_atom(("b", "j", 3, 4), ("a", "n", 5, 6)),
                     ("val", "<", ("y", 1), ("x", 2)))))

    def own_after(self, own, words):
        """The own names of an all, carried to a frame with these positions."""
        frame, target = Frame((), (), ()), Frame((), words, ())
        claim = ("all", own, ("and", tuple([("in", word, ("", 0), ("", 1)) for word in own])), TRUE)
        made = carried(frame, claim, target, {}, {})
        self.assertTrue(is_claim(target, made))
        self.assertEqual([part[1] for part in made[2][1]], list(made[1]))
        return made[1]

    def test_own_names(self):
        self.assertEqual(self.own_after(("q",), ("k",)), ("q",))
        self.assertEqual(self.own_after(("q",), ("q",)), ("k",))
        self.assertEqual(self.own_after(("q",), ("q", "k")), ("kk",))
        self.assertEqual(self.own_after(("q",), ("q", "kk")), ("k",))
        self.assertEqual(self.own_after(("k",), ("k",)), ("kk",))
        self.assertEqual(self.own_after(("k",), ("k", "kk", "kkk")), ("kkkk",))
        self.assertEqual(self.own_after(("q", "r"), ("q", "r")), ("k", "kk"))
        self.assertEqual(self.own_after(("q", "r"), ("r",)), ("q", "k"))
        self.assertEqual(self.own_after(("q", "k"), ("q",)), ("kk", "k"))
        self.assertEqual(self.own_after(("k", "q"), ("q",)), ("k", "kk"))
        self.assertEqual(self.own_after(("k", "kk"), ("k",)), ("kkk", "kk"))
        self.assertEqual(self.own_after(("kk", "k"), ("k",)), ("kk", "kkk"))
        self.assertEqual(self.own_after(("kk", "q"), ("kk", "q")), ("k", "kkk"))
        self.assertEqual(self.own_after(("q", "kk"), ("kk", "q")), ("k", "kkk"))
        self.assertEqual(self.own_after(("k", "kk"), ("k", "kk")), ("kkk", "kkkk"))

    def test_a_made_own_name_can_be_an_elder_name(self):
        frame = Frame((("a", "n"),), ("kk", "k"), ())
        claim = ("all", ("q",), ("in", "q", ("kk", 1), ("k", 2)), value_atom(("a", "q", 0, 0), ("a", "kk", 0, 0)))
        target = Frame((("q", "l"),), ("i", "k"), ())
        self.assertEqual(
            carried(frame, claim, target, {"a": "q"}, {"kk": ("i", 0), "k": ("k", 0)}),
            ("all", ("kk",), ("in", "kk", ("i", 1), ("k", 2)), value_atom(("q", "kk", 0, 0), ("q", "i", 0, 0))))

    def test_each_all_by_itself(self):
        other = ("all", ("q",), ("in", "q", ("", 0), ("i", 0)), TRUE)
        made = carried(FRAME, ("or", (("not", UPTO), other)), TARGET, {"a": "b"}, EXAMPLE_TERMS)
        self.assertEqual(made[1][0][1][1], ("kk",))
        self.assertEqual(made[1][1], ("all", ("q",), ("in", "q", ("", 0), ("p", 1)), TRUE))

    def test_no_such_arrays(self):
        for arrays in ({}, {"a": "k"}, {"a": "p"}, {"a": "q"}, {"a": None}, {"a": ["b"]}, {"b": "b"},
                       {"a": "b", "c": "b"}, {"a": "b", "n": "k"}, [("a", "b")], None, (), "ab", {"a": 1}):
            self.assertRaises(InvalidOperation, carried, FRAME, UPTO, TARGET, arrays, EXAMPLE_TERMS)
        for arrays in odd_values():
            self.assertRaises(InvalidOperation, carried, FRAME, UPTO, TARGET, arrays, EXAMPLE_TERMS)

    def test_one_length_goes_to_one_length(self):
        terms = {"i": ("", 0), "j": ("", 0), "x": ("", 0), "y": ("", 0)}
        same = {"a": "a", "b": "b", "c": "c"}
        self.assertEqual(carried(WIDE, TRUE, WIDE, same, terms), TRUE)
        self.assertRaises(InvalidOperation, carried, WIDE, TRUE, WIDE, {"a": "a", "b": "c", "c": "c"}, terms)
        self.assertRaises(InvalidOperation, carried, WIDE, TRUE, WIDE, {"a": "a", "b": "b"}, terms)
        self.assertEqual(carried(WIDE, TRUE, WIDE, {"a": "c", "b": "c", "c": "a"}, terms), TRUE)

    def test_no_such_terms(self):
        good = dict(EXAMPLE_TERMS)
        wrong = [{}, [], None, {"i": ("p", 1)}, {**good, "n": ("p", 0)}, {**good, "q": ("p", 0)},
                 {**good, "i": ("i", 0)}, {**good, "x": ("x", 0)}, {**good, "x": ("p", 0)},
                 {**good, "i": ("b", "p", 0, 0)}, {**good, "i": ["p", 0]}, {**good, "i": ("p", True)},
                 {"i": ("p", 1), "j": ("", 0), "q": ("", 0)}, {"i": ("p", 1), "j": ("", 0), "a": ("", 0)}]
        for terms in wrong + odd_values():
            self.assertRaises(InvalidOperation, carried, FRAME, UPTO, TARGET, {"a": "b"}, terms)
            self.assertRaises(InvalidOperation, carried, FRAME, TRUE, TARGET, {"a": "b"}, terms)
        for word in ("i", "j", "x"):
            less = {name: good[name] for name in good if name != word}
            self.assertRaises(InvalidOperation, carried, FRAME, TRUE, TARGET, {"a": "b"}, less)

    def test_result_is_no_claim(self):
        claim = position_atom(("i", SIXTY), ("j", 0))
        self.assertRaises(InvalidOperation, carried, FRAME, claim, TARGET, {"a": "b"}, EXAMPLE_TERMS)
        self.assertTrue(is_claim(TARGET, carried(FRAME, claim, TARGET, {"a": "b"},
                                                 {**EXAMPLE_TERMS, "i": ("p", 0)})))

    def test_errors_in_order(self):
        self.assertRaises(InvalidFrame, carried, None, None, None, None, None)
        self.assertRaises(InvalidClaim, carried, FRAME, None, None, None, None)
        self.assertRaises(InvalidFrame, carried, FRAME, UPTO, None, None, None)
        self.assertRaises(InvalidOperation, carried, FRAME, UPTO, TARGET, None, None)
        for value in odd_values():
            if not isinstance(value, Frame):
                self.assertRaises(InvalidFrame, carried, FRAME, UPTO, value, {"a": "b"}, EXAMPLE_TERMS)

    def test_means_the_same(self):
        target = Frame((("q", "l"), ("k", "h")), ("a",), ("b",))
        maker, other = Maker(WIDE, 12), Maker(target, 13)
        for _ in range(150):
            claim, situation = maker.claim(), other.situation()
            arrays = {"a": "q", "b": "q", "c": "k"}
            terms = {"i": other.place(), "j": other.place(), "x": other.amount(), "y": other.amount()}
            here = Situation(
                WIDE, {array: situation.rows[arrays[array]] for array in arrays},
                {word: situation.position_at(terms[word]) for word in ("i", "j")},
                {word: situation.value_at(terms[word]) for word in ("x", "y")})
            made = carried(WIDE, claim, target, arrays, terms)
            self.assertTrue(is_claim(target, made))
            self.assertEqual(naive(situation, made), naive(here, claim))


class UsedAt(unittest.TestCase):
    def test_example(self):
        self.assertEqual(
            used_at(FRAME, UPTO, (("j", -1),)),
            ("or", (("not", ("and", (position_atom(("", 0), ("j", -1)), ("pos", "<", ("j", -1), ("i", 0))))),
                    value_atom(("a", "j", -1, 0), ("x", 0)))))

    def test_each_form(self):
        claim = ("all", ("k", "m"),
                 ("or", (("in", "m", ("i", 1), ("n", 2)),
                         ("and", (("pos", "<=", ("k", 0), ("m", 0)), ("pos", "==", ("j", 3), ("k", 0)))))),
                 ("not", ("or", (value_atom(("a", "k", 0, 5), ("a", "i", 2, 6)),
                                 value_atom(("x", 7), ("a", "m", 0, 8))))))
        self.assertEqual(
            used_at(FRAME, claim, (("n", 4), ("", 9))),
            ("or", (("not", ("or", (
                ("and", (position_atom(("i", 1), ("", 9)), ("pos", "<", ("", 9), ("n", 2)))),
                ("and", (position_atom(("n", 4), ("", 9)), ("pos", "==", ("j", 3), ("n", 4))))))),
                    ("not", ("or", (value_atom(("a", "n", 4, 5), ("a", "i", 2, 6)),
                                    value_atom(("x", 7), ("a", "", 9, 8))))))))

    def test_terms_in_the_order_of_the_names(self):
        guard = ("pos", "<=", ("m", 0), ("k", 0))
        self.assertEqual(used_at(FRAME, ("all", ("m", "k"), guard, TRUE), (("i", 0), ("j", 0)))[1][0],
                         ("not", position_atom(("i", 0), ("j", 0))))

    def test_wrong(self):
        for claim in (TRUE, ("not", UPTO), position_atom(("i", 0), ("j", 0)), ("and", (UPTO,))):
            self.assertRaises(InvalidOperation, used_at, FRAME, claim, (("j", 0),))
        for terms in ((), (("j", 0), ("i", 0)), [("j", 0)], ("j", 0), (("x", 0),), (("k", 0),), (["j", 0],),
                      (("j", True),), (("a", "j", 0, 0),), None, (("j", LONGER),), {"k": ("j", 0)}):
            self.assertRaises(InvalidOperation, used_at, FRAME, UPTO, terms)
        for value in odd_values():
            self.assertRaises(InvalidOperation, used_at, FRAME, UPTO, value)
            self.assertRaises(InvalidOperation, used_at, FRAME, UPTO, (value,))

    def test_too_deep(self):
        def all_of(guard, body):
            return ("all", ("k",), guard, body)

        def deeper(many, inner):
            return inner if many == 0 else ("and", (deeper(many - 1, inner),))
        atom, inside = ("pos", "<=", ("k", 0), ("i", 0)), ("in", "k", ("", 0), ("i", 0))
        for guard, body, fits in ((deeper(9, atom), TRUE, True), (deeper(10, atom), TRUE, False),
                                  (deeper(8, inside), TRUE, True), (deeper(9, inside), TRUE, False),
                                  (atom, deeper(10, TRUE), True)):
            self.assertTrue(is_claim(FRAME, all_of(guard, body)))
            error = raised(used_at, FRAME, all_of(guard, body), (("i", 0),))
            self.assertEqual(error is None, fits)
            self.assertTrue(fits or isinstance(error, InvalidOperation))

    def test_errors_in_order(self):
        self.assertRaises(InvalidFrame, used_at, None, None, None)
        self.assertRaises(InvalidClaim, used_at, FRAME, None, None)


class InsideClaim(unittest.TestCase):
    def test_inside(self):
        self.assertEqual(inside_claim(FRAME, "a", ("i", 1)),
                         ("and", (position_atom(("", 0), ("i", 1)), ("pos", "<", ("i", 1), ("n", 0)))))
        self.assertEqual(inside_claim(WIDE, "c", ("", 4))[1][1], ("pos", "<", ("", 4), ("m", 0)))

    def test_errors(self):
        for value in odd_values() + ["n", "i", "x", "q", ["a"]]:
            error = raised(inside_claim, FRAME, value, None)
            self.assertIsInstance(error, UnknownName)
            self.assertEqual(error.name, value)
        for value in odd_values() + [("x", 0), ("k", 0), ("a", "i", 0, 0), ["i", 0]]:
            self.assertRaises(InvalidTerm, inside_claim, FRAME, "a", value)
        self.assertRaises(InvalidFrame, inside_claim, None, "q", None)


class AllBetween(unittest.TestCase):
    def test_example(self):
        self.assertEqual(all_between(FRAME, ("", 0), ("i", 0), "<=", ("a", "k", 0, 0), ("x", 0)), UPTO)

    def test_each_sign_and_term(self):
        for op in ("<=", "<", "=="):
            self.assertEqual(
                all_between(FRAME, ("j", -1), ("n", 2), op, ("", 3), ("a", "i", 4, 5)),
                ("all", ("k",), ("in", "k", ("j", -1), ("n", 2)), ("val", op, ("", 3), ("a", "i", 4, 5))))

    def test_first_fresh_name(self):
        seven = tuple(["k" * many for many in range(1, 8)])
        for words, own in ((("k",), "kk"), (("kk",), "k"), (("k", "kk"), "kkk"), (("k", "kkk"), "kk"), (seven, "k" * 8)):
            frame = Frame((("a", "n"),), words, ())
            cell = ("a", own, 0, 1)
            self.assertEqual(all_between(frame, ("", 0), ("n", 0), "<", cell, cell),
                             ("all", (own,), ("in", own, ("", 0), ("n", 0)), ("val", "<", cell, cell)))
        for frame in (Frame((("k", "n"),), (), ()), Frame((("a", "k"),), (), ()), Frame((), (), ("k",))):
            self.assertEqual(all_between(frame, ("", 0), ("", 1), "<", ("", 0), ("", 1))[1], ("kk",))

    def test_errors_in_order(self):
        good = [("", 0), ("i", 0), "<=", ("a", "k", 0, 0), ("x", 0)]
        wrong = [InvalidTerm, InvalidTerm, InvalidOperation, InvalidTerm, InvalidTerm]
        for place in range(5):
            for value in odd_values() + [("k", 0), ("a", "k", 1, 0), ("a", "m", 0, 0), ["i", 0], "<<"]:
                told = good[:place] + [value] + [None] * (4 - place)
                self.assertRaises(wrong[place], all_between, FRAME, *told)
                told = good[:place] + [value] + good[place + 1:]
                self.assertRaises(wrong[place], all_between, FRAME, *told)
        self.assertRaises(InvalidFrame, all_between, None, None, None, None, None, None)
        self.assertRaises(InvalidTerm, all_between, FRAME, ("x", 0), ("i", 0), "<", ("", 0), ("", 0))
        self.assertRaises(InvalidTerm, all_between, FRAME, ("i", 0), ("i", 0), "<", ("i", 0), ("", 0))
        self.assertRaises(InvalidTerm, all_between, FRAME, ("i", 0), ("i", 0), "<", ("", 0), ("kk", 0))


class RenamedClaim(unittest.TestCase):
    def test_names(self):
        self.assertEqual(
            renamed_claim(FRAME, UPTO, {"a": "b", "i": "p", "x": "v"}),
            ("all", ("k",), ("in", "k", ("", 0), ("p", 0)), value_atom(("b", "k", 0, 0), ("v", 0))))
        self.assertEqual(renamed_claim(FRAME, UPTO, {}), UPTO)
        self.assertEqual(renamed_claim(FRAME, position_atom(("n", 1), ("j", 2)), {"n": "z"}),
                         position_atom(("z", 1), ("j", 2)))

    def test_names_exchanged(self):
        claim = ("and", (position_atom(("i", 1), ("n", 2)), value_atom(("a", "i", 3, 4), ("x", 5))))
        self.assertEqual(
            renamed_claim(FRAME, claim, {"i": "n", "n": "x", "x": "a", "a": "i"}),
            ("and", (position_atom(("n", 1), ("x", 2)), value_atom(("i", "n", 3, 4), ("a", 5)))))

    def test_own_names_that_are_not_fresh(self):
        self.assertEqual(
            renamed_claim(FRAME, UPTO, {"j": "k"}),
            ("all", ("kk",), ("in", "kk", ("", 0), ("i", 0)), value_atom(("a", "kk", 0, 0), ("x", 0))))
        self.assertEqual(
            renamed_claim(FRAME, UPTO, {"i": "k", "j": "kk"}),
            ("all", ("kkk",), ("in", "kkk", ("", 0), ("k", 0)), value_atom(("a", "kkk", 0, 0), ("x", 0))))

    def test_a_name_that_becomes_free(self):
        frame = Frame((("a", "n"),), ("k",), ())
        claim = ("all", ("kk",), ("in", "kk", ("", 0), ("k", 0)), TRUE)
        self.assertEqual(renamed_claim(frame, claim, {"k": "kk"}),
                         ("all", ("k",), ("in", "k", ("", 0), ("kk", 0)), TRUE))

    def test_errors(self):
        self.assertRaises(InvalidFrame, renamed_claim, None, None, None)
        self.assertRaises(InvalidClaim, renamed_claim, FRAME, None, None)
        for names in odd_values() + [{"q": "z"}, {"i": "j"}, {"i": "I"}, {"k": "z"}, [("i", "p")]]:
            if names != {}:
                self.assertRaises(InvalidOperation, renamed_claim, FRAME, UPTO, names)

    def test_is_a_claim_and_goes_back(self):
        maker = Maker(WIDE, 14)
        names = {"a": "b", "b": "a", "n": "h", "i": "k", "x": "q"}
        back = {"a": "b", "b": "a", "h": "n", "k": "i", "q": "x"}
        for _ in range(150):
            claim, situation = maker.claim(), maker.situation()
            target = WIDE.renamed(names)
            made = renamed_claim(WIDE, claim, names)
            self.assertTrue(is_claim(target, made))
            there = renamed_claim(target, made, back)
            self.assertEqual(naive(situation, there), naive(situation, claim))


class Claims(unittest.TestCase):
    def test_claim_errors(self):
        calls = [(replaced, ({},)), (carried, (TARGET, {"a": "b"}, EXAMPLE_TERMS)), (used_at, ((("j", 0),),)),
                 (renamed_claim, ({},))]
        for call, more in calls:
            for value in odd_values():
                self.assertRaises(InvalidClaim, call, FRAME, value, *more)
                if not isinstance(value, Frame):
                    self.assertRaises(InvalidFrame, call, value, value, *more)
            self.assertRaises(InvalidFrame, call, SHOWN, UPTO, *more)
            self.assertRaises(InvalidFrame, call, NEXT, UPTO, *more)
            self.assertRaises(InvalidClaim, call, FRAME, ("and", [FALSE]), *more)


if __name__ == "__main__":
    unittest.main()

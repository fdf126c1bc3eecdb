"""[0.9], [0.10] and `is_claim`, `names_of` of Part 1c."""

import unittest

from forkcells.base.frames import Frame
from forkcells.errors import InvalidClaim, InvalidFrame
from forkcells.logic.claims import is_claim, names_of
from samples import FALSE, FRAME, LONGER, Maker, SIXTY, TRUE, UPTO, WIDE, odd_values

CELL = ("a", "k", 0, 0)
LOW = ("val", "<=", CELL, ("x", 0))
INSIDE = ("in", "k", ("", 0), ("i", 0))
SIGNS = ("<=", "<", "==")


def all_of(guard, body, names=("k",)):
    return ("all", names, guard, body)


def nots(many, claim=TRUE):
    for _ in range(many):
        claim = ("not", claim)
    return claim


class Checks(unittest.TestCase):
    def good(self, *claims, frame=FRAME):
        for claim in claims:
            self.assertIs(is_claim(frame, claim), True, claim)

    def bad(self, *claims, frame=FRAME):
        for claim in claims:
            self.assertIs(is_claim(frame, claim), False, repr(claim)[:200])


class Atoms(Checks):
    def test_each_sign(self):
        for op in SIGNS:
            self.good(("pos", op, ("i", 1), ("n", -1)), ("pos", op, ("", 0), ("", SIXTY)),
                      ("val", op, ("x", 1), ("", -1)), ("val", op, ("a", "i", 1, 2), ("a", "", 0, 0)),
                      ("val", op, ("a", "n", -1, 0), ("x", 0)))

    def test_other_signs(self):
        for op in (">", ">=", "!=", "=", "", "<==", "=<", None, 1, True, ["<"], ("<",), {}, FRAME):
            self.bad(("pos", op, ("i", 0), ("j", 0)), ("val", op, ("x", 0), ("x", 0)))

    def test_positions_and_values_are_not_compared(self):
        self.bad(("pos", "<", ("x", 0), ("i", 0)), ("pos", "<", ("i", 0), ("x", 0)),
                 ("pos", "<", ("a", "i", 0, 0), ("i", 0)), ("pos", "<", ("i", 0), ("a", "i", 0, 0)),
                 ("val", "<", ("i", 0), ("x", 0)), ("val", "<", ("x", 0), ("n", 0)),
                 ("pos", "<", ("a", 0), ("i", 0)), ("val", "<", ("a", 0), ("x", 0)))

    def test_wrong_terms(self):
        for term in odd_values() + [("k", 0), ["i", 0], ("i", True), ("i", LONGER)]:
            self.bad(("pos", "<=", term, ("i", 0)), ("pos", "<=", ("i", 0), term),
                     ("val", "<=", term, ("x", 0)), ("val", "<=", ("x", 0), term))
        self.bad(("val", "<", ("a", "k", 0, 0), ("x", 0)), ("val", "<", ("a", "i", LONGER, 0), ("x", 0)),
                 ("val", "<", ("a", "i", 0, LONGER), ("x", 0)), ("val", "<", ("a", "i", True, 0), ("x", 0)),
                 ("val", "<", ("a", "i", 0, False), ("x", 0)), ("val", "<", ["a", "i", 0, 0], ("x", 0)))

    def test_wrong_lengths_and_lists(self):
        self.bad(("pos", "<=", ("i", 0)), ("pos", "<=", ("i", 0), ("j", 0), ("n", 0)), ("pos",),
                 ["pos", "<=", ("i", 0), ("j", 0)], ("val", "<=", ("x", 0)), ("val",),
                 ("val", "<=", ("x", 0), ("x", 0), ()), ["val", "<=", ("x", 0), ("x", 0)],
                 ("Pos", "<=", ("i", 0), ("j", 0)), ("", "<=", ("i", 0), ("j", 0)),
                 (["pos"], "<=", ("i", 0), ("j", 0)), ("position", "<=", ("i", 0), ("j", 0)))

    def test_in_is_no_claim(self):
        self.bad(INSIDE, ("in", "i", ("", 0), ("n", 0)), ("not", INSIDE), ("and", (INSIDE,)))


class Joined(Checks):
    def test_not(self):
        self.good(("not", TRUE), ("not", UPTO), nots(5))
        self.bad(("not",), ("not", TRUE, TRUE), ["not", TRUE], ("not", (TRUE,)), ("not", None),
                 ("not", ()), ("not", "and"))

    def test_and_or(self):
        for word in ("and", "or"):
            self.good((word, ()), (word, (TRUE,)), (word, (TRUE, FALSE, UPTO)), (word, (TRUE,) * 50))
            self.bad((word,), (word, [TRUE]), (word, TRUE), (word, (TRUE,), (TRUE,)), [word, ()],
                     (word, TRUE, FALSE), (word, (TRUE, ())), (word, (TRUE, None)), (word, None),
                     (word, {}), (word, "and"), (word, ([],)))

    def test_wrong_parts(self):
        for value in odd_values():
            self.bad(value, ("not", value), ("and", (TRUE, value)), ("or", (value, TRUE)),
                     ("all", ("k",), value, LOW), ("all", ("k",), INSIDE, value))
            if value != ():
                self.bad(("and", value))


class Alls(Checks):
    def test_guards(self):
        own = ("k", 0)
        for op in ("<=", "=="):
            self.good(all_of(("pos", op, own, ("i", 3)), LOW), all_of(("pos", op, ("", 7), own), LOW),
                      all_of(("pos", op, own, own), LOW), all_of(("pos", op, ("n", -1), own), LOW))
        self.good(all_of(INSIDE, LOW), all_of(("in", "k", ("n", -3), ("", SIXTY)), LOW),
                  all_of(("and", ()), LOW), all_of(("or", ()), LOW),
                  all_of(("and", (INSIDE, ("or", (INSIDE, INSIDE)))), LOW))

    def test_no_guards(self):
        own = ("k", 0)
        self.bad(all_of(("pos", "<", own, ("i", 0)), LOW), all_of(("pos", "<", ("i", 0), own), LOW),
                 all_of(("pos", "<=", ("k", 1), ("i", 0)), LOW),
                 all_of(("pos", "<=", ("i", 0), ("k", -1)), LOW),
                 all_of(("pos", "==", ("k", 1), ("k", 1)), LOW),
                 all_of(("pos", "<=", own, ("k", 1)), LOW), all_of(("pos", "<=", ("k", -1), own), LOW),
                 all_of(("pos", "<=", ("i", 0), ("j", 0)), LOW),
                 all_of(("pos", "==", ("", 0), ("", 0)), LOW),
                 all_of(("not", INSIDE), LOW), all_of(("and", (("not", INSIDE),)), LOW),
                 all_of(("val", "<=", CELL, ("x", 0)), LOW), all_of(UPTO, LOW),
                 all_of(("and", [INSIDE]), LOW), all_of(("or", INSIDE), LOW), all_of((), LOW),
                 all_of(("pos", "<=", ("m", 0), ("i", 0)), LOW), all_of(("and", (INSIDE, ())), LOW))

    def test_in(self):
        for low, high in ((("", 0), ("", 0)), (("i", -1), ("n", 1)), (("n", 0), ("i", 0))):
            self.good(all_of(("in", "k", low, high), LOW))
        self.bad(all_of(("in", "k", ("k", 0), ("i", 0)), LOW), all_of(("in", "k", ("i", 0), ("k", 0)), LOW),
                 all_of(("in", "i", ("", 0), ("i", 0)), LOW), all_of(("in", "m", ("", 0), ("i", 0)), LOW),
                 all_of(("in", "", ("", 0), ("i", 0)), LOW), all_of(("in", "k", ("", 0)), LOW),
                 all_of(("in", "k", ("", 0), ("i", 0), ("j", 0)), LOW),
                 all_of(("in", ("k", 0), ("", 0), ("i", 0)), LOW),
                 all_of(("in", "k", ("x", 0), ("i", 0)), LOW), all_of(["in", "k", ("", 0), ("i", 0)], LOW),
                 all_of(("in", "k", ["", 0], ("i", 0)), LOW), all_of(("in", "k", ("", 0), ("i", True)), LOW),
                 all_of(("in", ["k"], ("", 0), ("i", 0)), LOW), all_of(("in", None, ("", 0), ("i", 0)), LOW))
        self.bad(("all", ("k", "m"), ("in", "k", ("m", 0), ("i", 0)), LOW),
                 ("all", ("k", "m"), ("in", "k", ("", 0), ("m", 0)), LOW))

    def test_bodies(self):
        for op in SIGNS:
            self.good(all_of(INSIDE, ("val", op, CELL, ("a", "k", 0, -3))),
                      all_of(INSIDE, ("val", op, ("a", "i", 7, 1), ("a", "", 3, 0))),
                      all_of(INSIDE, ("val", op, ("x", 0), ("", 0))))
        self.good(all_of(INSIDE, ("not", LOW)), all_of(INSIDE, ("and", ())), all_of(INSIDE, ("or", ())),
                  all_of(INSIDE, ("or", (LOW, ("not", ("and", (LOW, LOW)))))))

    def test_no_bodies(self):
        self.bad(all_of(INSIDE, ("val", "<=", ("a", "k", 1, 0), ("x", 0))),
                 all_of(INSIDE, ("val", "<=", ("x", 0), ("a", "k", -1, 0))),
                 all_of(INSIDE, ("not", ("val", "<=", ("x", 0), ("a", "k", -1, 0)))),
                 all_of(INSIDE, ("pos", "<=", ("k", 0), ("i", 0))),
                 all_of(INSIDE, ("pos", "<=", ("i", 0), ("j", 0))),
                 all_of(INSIDE, INSIDE), all_of(INSIDE, UPTO), all_of(INSIDE, ("not", UPTO)),
                 all_of(INSIDE, ("and", (UPTO,))), all_of(INSIDE, ("and", [LOW])),
                 all_of(INSIDE, ("val", "<=", ("k", 0), ("x", 0))),
                 all_of(INSIDE, ("val", "<=", ("a", "m", 0, 0), ("x", 0))),
                 all_of(INSIDE, ("and", (("pos", "<=", ("k", 0), ("i", 0)),))),
                 all_of(INSIDE, ("val", ">", CELL, ("x", 0))), all_of(INSIDE, ("not", LOW, LOW)),
                 all_of(INSIDE, ("val", "<=", CELL)), all_of(INSIDE, ()))

    def test_two_own_names(self):
        both = ("and", (("in", "k", ("", 0), ("n", 0)), ("pos", "<=", ("k", 0), ("m", 0))))
        body = ("val", "<=", ("a", "k", 0, 0), ("a", "m", 0, 0))
        self.good(("all", ("k", "m"), both, body), ("all", ("m", "k"), both, body),
                  ("all", ("k", "m"), ("pos", "==", ("m", 0), ("k", 0)), body),
                  ("all", ("k", "m"), TRUE, body))
        self.bad(("all", ("k", "m"), ("pos", "<", ("k", 0), ("m", 0)), body),
                 ("all", ("k", "m"), ("pos", "<=", ("k", 1), ("m", 0)), body),
                 ("all", ("k", "m"), ("pos", "<=", ("k", 0), ("m", 1)), body),
                 ("all", ("k",), both, body),
                 ("all", ("k", "m"), both, ("val", "<", ("a", "k", 0, 0), ("a", "m", 1, 0))))

    def test_own_names(self):
        for names in (("i",), ("a",), ("n",), ("x",), ("k", "k"), (), ("k", "m", "o"), ("K",), ("",),
                      ["k"], "k", None, ("k", "i"), ("k", None), (1,), ("abcdefghi",), (["k"],), {"k": 1}):
            self.bad(("all", names, TRUE, TRUE))
        self.good(("all", ("abcdefgh",), TRUE, TRUE), ("all", ("k", "kk"), TRUE, TRUE))

    def test_own_names_are_used_again_in_another_all(self):
        self.good(("and", (UPTO, UPTO, ("not", UPTO))), ("or", (UPTO, ("all", ("k", "m"), TRUE, TRUE))))

    def test_own_names_end_with_their_all(self):
        self.bad(("and", (UPTO, ("pos", "<=", ("k", 0), ("i", 0)))),
                 ("and", (UPTO, ("val", "<=", CELL, ("x", 0)))),
                 ("and", (UPTO, ("all", ("m",), TRUE, LOW))))

    def test_wrong_lengths(self):
        self.bad(("all", ("k",), INSIDE), ("all", ("k",), INSIDE, LOW, LOW), ("all", ("k",)), ("all",),
                 ["all", ("k",), INSIDE, LOW])

    def test_other_words(self):
        for word in ("any", "in", "", "alls", "ALL", "k", "guard"):
            self.bad((word, ("k",), INSIDE, LOW), ("not", (word, ("k",), TRUE, TRUE)))

    def test_no_all_stands_in_an_all(self):
        inner = ("all", ("m",), ("in", "m", ("", 0), ("i", 0)), ("val", "<=", ("a", "m", 0, 0), ("x", 0)))
        self.good(inner)
        self.bad(all_of(INSIDE, inner), all_of(inner, LOW))


class Depth(Checks):
    def test_nots(self):
        self.good(nots(11))
        self.bad(nots(12))

    def test_atoms_and_empty_ones_have_the_depth_one(self):
        for inner in (("pos", "<=", ("i", 0), ("j", 0)), ("val", "<=", ("x", 0), ("x", 0)), TRUE, FALSE):
            self.good(nots(11, inner), ("and", (nots(10, inner),)))
            self.bad(nots(12, inner), ("or", (nots(11, inner),)), ("and", (TRUE, nots(11, inner))),
                     ("and", (nots(11, inner), TRUE)))

    def test_all_counts_guard_and_body(self):
        def guard(many):
            return INSIDE if many == 1 else ("and", (guard(many - 1),))
        self.good(all_of(guard(11), LOW), nots(10, all_of(INSIDE, LOW)), all_of(INSIDE, nots(10, LOW)))
        self.bad(all_of(guard(12), LOW), nots(11, all_of(INSIDE, LOW)), all_of(INSIDE, nots(11, LOW)),
                 ("not", all_of(guard(11), LOW)), ("or", (all_of(INSIDE, nots(10, LOW)),)))

    def test_guards_of_or(self):
        guard = ("or", ())
        for _ in range(10):
            guard = ("or", (guard, INSIDE))
        self.good(all_of(guard, LOW))
        self.bad(all_of(("or", (guard,)), LOW), all_of(("and", (guard,)), LOW))

    def test_bodies_of_and_and_or(self):
        for word in ("and", "or"):
            body = LOW
            for _ in range(10):
                body = (word, (LOW, body))
            self.good(all_of(INSIDE, body))
            self.bad(all_of(INSIDE, (word, (body, LOW))), all_of(INSIDE, (word, (LOW, body))),
                     all_of(INSIDE, ("not", body)), ("not", all_of(INSIDE, body)))

    def test_much_deeper(self):
        self.bad(nots(19), nots(300))


class Names(Checks):
    def test_example(self):
        self.assertEqual(names_of(FRAME, UPTO), ("a", "i", "x"))

    def test_each_place(self):
        for claim, names in (
                (TRUE, ()), (("pos", "<", ("", 0), ("", 1)), ()), (("pos", "<", ("j", 0), ("i", 1)), ("i", "j")),
                (("pos", "<", ("n", 0), ("n", 1)), ("n",)), (("val", "<", ("x", 0), ("", 1)), ("x",)),
                (("val", "<", ("", 0), ("x", 1)), ("x",)),
                (("val", "<", ("a", "", 0, 1), ("", 1)), ("a",)),
                (("val", "<", ("", 0), ("a", "n", 0, 0)), ("a", "n")),
                (("val", "<", ("a", "j", 0, 0), ("", 0)), ("a", "j")),
                (("not", ("or", (("pos", "<", ("", 0), ("n", 0)), UPTO))), ("a", "i", "n", "x")),
                (("all", ("k",), ("in", "k", ("j", 0), ("n", 0)), TRUE), ("j", "n")),
                (("all", ("k",), ("pos", "==", ("k", 0), ("j", 0)), TRUE), ("j",)),
                (("all", ("k",), ("pos", "<=", ("j", 0), ("k", 0)), TRUE), ("j",)),
                (("all", ("k", "m"), ("pos", "<=", ("m", 0), ("k", 0)), LOW), ("a", "x")),
                (("all", ("k",), TRUE, ("val", "<", CELL, ("a", "n", -1, 0))), ("a", "n"))):
            self.assertEqual(names_of(FRAME, claim), names)

    def test_ascending(self):
        frame = Frame((("z", "b"), ("c", "y")), ("m", "d"), ("e", "a"))
        claim = ("and", (("val", "<", ("z", "m", 0, 0), ("e", 0)), ("val", "<", ("c", "d", 0, 0), ("a", 0)),
                         ("pos", "<", ("y", 0), ("b", 0))))
        self.assertEqual(names_of(frame, claim), ("a", "b", "c", "d", "e", "m", "y", "z"))


class Errors(Checks):
    def test_no_frame(self):
        for value in odd_values():
            if not isinstance(value, Frame):
                self.assertRaises(InvalidFrame, is_claim, value, TRUE)
                self.assertRaises(InvalidFrame, is_claim, value, None)
                self.assertRaises(InvalidFrame, names_of, value, None)

    def test_no_claim(self):
        for value in odd_values():
            self.assertRaises(InvalidClaim, names_of, FRAME, value)

    def test_claims_hang_on_the_frame(self):
        self.good(UPTO)
        self.bad(UPTO, frame=Frame((("a", "n"),), ("k", "i"), ("x",)))
        self.bad(UPTO, frame=Frame((("a", "n"),), ("i",), ()))
        self.bad(UPTO, frame=Frame((("b", "n"),), ("i",), ("x",)))
        self.bad(UPTO, frame=Frame((("a", "n"),), ("j",), ("x",)))

    def test_made_claims_are_claims(self):
        for frame in (FRAME, WIDE, Frame((), (), ())):
            maker = Maker(frame, 7)
            for _ in range(300):
                self.good(maker.claim(), frame=frame)


if __name__ == "__main__":
    unittest.main()

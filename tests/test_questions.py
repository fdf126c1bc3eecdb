"""[0.13] to [0.16] and Part 2b: questions, members and few cells."""

import unittest

from forkcells.base.frames import Frame
from forkcells.errors import (InvalidClaim, InvalidFrame, InvalidNumber, InvalidOperation,
                              InvalidQuestion, InvalidSituation)
from forkcells.logic.claims import replaced
from forkcells.solve.questions import Question
from forkcells.world.situations import Situation
from samples import (BROKEN, FALSE, FRAME, LONGER, Maker, NEXT, SHOWN, SIXTY, TRUE, UPTO, WIDE, naive,
                     naive_failures, odd_values, raised)

BASE = (("", -1), ("", 0))
TURNED = Frame((("a", "n"),), ("j", "i"), ("x",))
LOW = ("val", "<=", ("a", "k", 0, 0), ("x", 0))


def all_of(guard, body=LOW, names=("k",)):
    return ("all", names, guard, body)


def members(*given, wanted=FALSE, frame=FRAME):
    return Question(frame, tuple(given), wanted).members


def few(*given, wanted=FALSE, frame=FRAME):
    return Question(frame, tuple(given), wanted).few


class Making(unittest.TestCase):
    def test_example(self):
        self.assertEqual(
            [NEXT.members, NEXT.fresh, len(NEXT.facts), str(NEXT)],
            [(("", -1), ("", 0), ("*1", 0), ("i", 0), ("n", 0)), ("*1",), 4,
             "question of 2 given, 5 members, few 12"])
        self.assertEqual(
            [BROKEN.is_broken_by(SHOWN), BROKEN.new_numbers(SHOWN), str(BROKEN.laid(SHOWN))],
            [True, (2,), "a=4 4 7 | i=2 j=2 | x=5"])

    def test_properties(self):
        self.assertEqual(NEXT.frame, FRAME)
        self.assertEqual(NEXT.claims, (UPTO, ("val", "<=", ("a", "i", 0, 0), ("x", 0))))
        self.assertEqual(NEXT.goal, replaced(FRAME, UPTO, {"i": ("i", 1)}))

    def test_facts(self):
        self.assertEqual(NEXT.facts, (("pos", "<=", ("", 0), ("n", 0)),) + NEXT.claims + (("not", NEXT.goal),))
        frame = Frame((("a", "z"), ("b", "c"), ("d", "z")), (), ())
        self.assertEqual(Question(frame, (TRUE,), FALSE).facts,
                         (("pos", "<=", ("", 0), ("z", 0)), ("pos", "<=", ("", 0), ("c", 0)), TRUE, ("not", FALSE)))
        deep = TRUE
        for _ in range(11):
            deep = ("not", deep)
        self.assertEqual(Question(FRAME, (), deep).facts[-1], ("not", deep))
        empty = Frame((), (), ())
        self.assertEqual(Question(empty, (), TRUE).facts, (("not", TRUE),))

    def test_at_most_forty_given(self):
        self.assertEqual(len(Question(FRAME, (TRUE,) * 40, TRUE)), 40)
        self.assertRaises(InvalidQuestion, Question, FRAME, (TRUE,) * 41, TRUE)

    def test_errors(self):
        for value in odd_values():
            if not isinstance(value, Frame):
                self.assertRaises(InvalidFrame, Question, value, None, None)
            if value != ():
                self.assertRaises(InvalidQuestion, Question, FRAME, value, TRUE)
            self.assertRaises(InvalidQuestion, Question, FRAME, (value,), TRUE)
            self.assertRaises(InvalidQuestion, Question, FRAME, (TRUE, value), TRUE)
            self.assertRaises(InvalidQuestion, Question, FRAME, (), value)
        self.assertRaises(InvalidQuestion, Question, FRAME, [TRUE], TRUE)
        self.assertRaises(InvalidQuestion, Question, FRAME, TRUE, TRUE)
        self.assertRaises(InvalidQuestion, Question, Frame((), (), ()), (UPTO,), TRUE)
        self.assertRaises(InvalidQuestion, Question, Frame((), (), ()), (), UPTO)

    def test_does_not_change(self):
        for attribute in ("frame", "claims", "goal", "members", "fresh", "few", "facts"):
            with self.assertRaises(AttributeError):
                setattr(NEXT, attribute, ())

    def test_len_str_and_equality(self):
        self.assertEqual([len(NEXT), len(BROKEN), len(Question(FRAME, (), TRUE))], [2, 1, 0])
        self.assertEqual(str(Question(FRAME, (), TRUE)), "question of 0 given, 3 members, few 9")
        self.assertIs(NEXT == Question(FRAME, NEXT.claims, NEXT.goal), True)
        self.assertIs(NEXT != Question(FRAME, NEXT.claims, NEXT.goal), False)
        for other in (BROKEN, Question(FRAME, NEXT.claims[::-1], NEXT.goal), Question(FRAME, NEXT.claims, TRUE),
                      Question(TURNED, NEXT.claims, NEXT.goal)):
            self.assertIs(NEXT == other, False)
            self.assertIs(NEXT != other, True)
        for value in odd_values() + [NEXT.facts]:
            if not isinstance(value, Question):
                self.assertIs(NEXT == value, False)
                self.assertIs(NEXT != value, True)

    def test_not_iterated(self):
        self.assertRaises(TypeError, iter, NEXT)


class Members(unittest.TestCase):
    def check(self, expected, *given, **more):
        self.assertEqual(members(*given, **more), tuple(sorted(BASE + (("n", 0),) + expected)))

    def test_no_claims(self):
        self.check((), TRUE)
        self.assertEqual(members(frame=Frame((), ("i",), ())), BASE)
        self.assertEqual(members(frame=WIDE), (("", -1), ("", 0), ("m", 0), ("n", 0)))

    def test_cells(self):
        atom = ("val", "<", ("a", "i", 2, 9), ("a", "", 7, 0))
        for claim in (atom, ("not", atom), ("and", (TRUE, atom)), ("or", (("not", atom),))):
            self.check((("i", 2), ("", 7)), claim)
            self.check((("i", 2), ("", 7)), TRUE, wanted=claim)
        self.check((("n", -1),), ("val", "<", ("x", 3), ("a", "n", -1, 5)))
        self.check((), ("val", "<", ("a", "n", 0, 5), ("x", 3)))
        self.check((), ("pos", "<", ("i", 3), ("j", 2)))
        self.check((("i", 1),), ("val", "<", ("a", "i", 1, 5), ("a", "i", 1, 3)))

    def test_cells_in_alls(self):
        body = ("or", (LOW, ("not", ("val", "<", ("a", "i", 5, 0), ("", 0)))))
        self.check((("i", 5),), all_of(TRUE, body))
        self.check((("i", 5), ("*1", 0)), ("not", all_of(TRUE, body)))
        self.check((("i", 5), ("*1", 0)), TRUE, wanted=all_of(TRUE, body))

    def test_guards_of_positive_alls(self):
        guard = ("and", (("pos", "<=", ("i", 3), ("k", 0)), ("or", (("pos", "==", ("k", 0), ("j", -2)),
                                                                     ("pos", "<=", ("k", 0), ("", 6))))))
        self.check((("i", 3), ("j", -2), ("", 6)), all_of(guard))
        self.check((("i", 3), ("j", -2), ("", 6)), TRUE, wanted=("not", all_of(guard)))
        self.check((("i", 3), ("j", -2), ("", 6)), ("not", ("or", (("not", all_of(guard)),))))
        self.check((("i", 1),), all_of(("in", "k", ("i", 1), ("j", 2))))
        self.check((), all_of(("pos", "==", ("k", 0), ("k", 0))))
        self.check((("j", 1),), all_of(("and", (("pos", "<=", ("k", 0), ("q", 0)), ("in", "q", ("j", 1), ("i", 0)))),
                                       names=("k", "q")))

    def test_guards_of_negative_alls(self):
        guard = ("and", (("pos", "<=", ("i", 3), ("k", 0)), ("in", "k", ("j", 1), ("i", 2))))
        self.check((("*1", 0),), ("not", all_of(guard)))
        self.check((("*1", 0),), TRUE, wanted=all_of(guard))
        self.check((("*1", 0),), TRUE, wanted=("not", ("not", all_of(guard))))

    def test_fresh(self):
        both = all_of(TRUE, TRUE, ("k", "q"))
        one = all_of(TRUE)
        self.assertEqual(Question(FRAME, (one, ("not", both), ("or", (("not", one), one))), one).fresh,
                         ("*1", "*2", "*3", "*4"))
        self.assertEqual(Question(FRAME, (one, both), ("not", both)).fresh, ())
        self.assertEqual(Question(FRAME, (), both).fresh, ("*1", "*2"))
        self.check((("*1", 0), ("*2", 0), ("*3", 0)), ("not", both), wanted=one)

    def test_an_all_that_stands_twice_is_two(self):
        self.assertEqual(Question(FRAME, (("not", UPTO), ("not", UPTO)), UPTO).fresh, ("*1", "*2", "*3"))
        self.check((("*1", 0), ("*2", 0)), ("not", ("and", (UPTO, UPTO))))

    def test_more_than_nine_are_ascending_as_words(self):
        made = Question(FRAME, (("not", UPTO),) * 11, TRUE)
        self.assertEqual(made.fresh, tuple(["*%d" % k for k in range(1, 12)]))
        self.assertEqual(made.members[:6], (("", -1), ("", 0), ("*1", 0), ("*10", 0), ("*11", 0), ("*2", 0)))

    def test_more_than_sixteen_are_no_error(self):
        claims = tuple([("val", "<", ("a", "i", k, 0), ("", 0)) for k in range(30)])
        self.assertEqual(len(members(*claims)), 33)


class Few(unittest.TestCase):
    def test_names(self):
        self.assertEqual(few(), 9)
        self.assertEqual(few(frame=WIDE), 12)
        self.assertEqual(few(frame=Frame((), (), ())), 0)
        self.assertEqual(few(frame=Frame((), ("i",), ("x", "y"))), 3)
        self.assertEqual(few(("not", UPTO)), 12)
        self.assertEqual(few(wanted=all_of(TRUE, TRUE, ("k", "q"))), 15)
        self.assertEqual(few(wanted=("and", (UPTO, UPTO))), 15)

    def test_greatest_number(self):
        for number, expected in ((0, 9), (1, 9), (-1, 9), (2, 15), (-2, 15), (10, 63), (-SIXTY, 3 * (2 * SIXTY + 1))):
            for claim in (("pos", "<", ("i", number), ("j", 1)), ("pos", "<", ("", 0), ("", number)),
                          ("val", "<", ("a", "i", number, 0), ("", 99)), ("val", "<", ("x", 99), ("a", "", number, 99)),
                          all_of(("in", "k", ("i", number), ("", 0))), all_of(("in", "k", ("", 0), ("", number))),
                          all_of(("pos", "<=", ("k", 0), ("n", number))), all_of(("pos", "==", ("n", number), ("k", 0))),
                          all_of(TRUE, ("not", ("val", "<", ("a", "j", number, 5), ("", 7))))):
                self.assertEqual(few(claim), expected)
                self.assertEqual(few(wanted=("not", claim)), expected)

    def test_numbers_of_values_do_not_count(self):
        self.assertEqual(few(("val", "<", ("x", 50), ("", 60))), 9)
        self.assertEqual(few(("val", "<", ("a", "i", 0, 50), ("x", -60))), 9)


class Breaking(unittest.TestCase):
    def test_is_broken_by(self):
        self.assertIs(BROKEN.is_broken_by(SHOWN), True)
        self.assertIs(NEXT.is_broken_by(SHOWN), False)
        self.assertIs(BROKEN.is_broken_by(SHOWN.with_cell("a", 2, 5)), False)
        self.assertIs(BROKEN.is_broken_by(SHOWN.with_cell("a", 1, 9)), False)
        self.assertIs(Question(FRAME, (), FALSE).is_broken_by(SHOWN), True)
        self.assertIs(Question(FRAME, (), TRUE).is_broken_by(SHOWN), False)
        self.assertIs(Question(FRAME, (TRUE, FALSE), FALSE).is_broken_by(SHOWN), False)
        self.assertIs(Question(FRAME, (FALSE, TRUE), FALSE).is_broken_by(SHOWN), False)
        self.assertIs(BROKEN.is_broken_by(SHOWN.for_frame(TURNED)), False)

    def test_other_values(self):
        for value in odd_values() + [str(SHOWN), SHOWN.rows, (SHOWN,)]:
            if not isinstance(value, Situation):
                self.assertIs(Question(FRAME, (), FALSE).is_broken_by(value), False)

    def test_new_numbers(self):
        high = ("all", ("k",), ("in", "k", ("", 0), ("n", 0)), ("val", "<", ("", 0), ("a", "k", 0, 0)))
        pair = ("all", ("k", "q"), ("and", (("in", "k", ("", 0), ("n", 0)), ("pos", "<=", ("q", 0), ("k", 0)),
                                            ("pos", "<=", ("", 0), ("q", 0)))),
                ("val", "<=", ("a", "q", 0, 0), ("a", "k", 0, 0)))
        question = Question(FRAME, (UPTO, ("not", high), ("or", (("not", pair), TRUE))), ("and", (UPTO, high)))
        self.assertEqual(question.fresh, ("*1", "*2", "*3", "*4", "*5"))
        self.assertEqual(question.new_numbers(SHOWN), (1, 1, 0, 0, 1))
        self.assertEqual(question.new_numbers(SHOWN.with_number("i", 3)), (1, 1, 0, 2, 1))
        self.assertEqual(question.new_numbers(SHOWN.with_cell("a", 1, 1).with_cell("a", 2, 0)), (2, 1, 0, 0, 2))
        self.assertEqual(question.new_numbers(SHOWN.with_cell("a", 1, 5)), (0, 0, 0, 0, 0))
        self.assertEqual(Question(FRAME, (UPTO,), TRUE).new_numbers(SHOWN), ())

    def test_laid(self):
        made = Situation(FRAME, {"a": (1, 2, 3, 4, 5, 6, 7)}, {"i": 2, "j": 5}, {"x": 0})
        read = [("val", "<", ("a", word, shift, 0), ("", 0)) for word, shift in (("i", 0), ("j", -1), ("", 6), ("i", 9))]
        for claims, row in (((), "1 1 1 1 1 1 1"), (read[:1], "1 1 3 3 3 3 3"), (read[:2], "1 1 3 3 5 5 5"),
                            (read[1:3], "1 1 1 1 5 5 7"), (read[3:], "1 1 1 1 1 1 1")):
            self.assertEqual(str(Question(FRAME, tuple(claims), FALSE).laid(made)), "a=%s | i=2 j=5 | x=0" % row)
        outside = made.with_number("i", -3)
        self.assertEqual(Question(FRAME, tuple(read), FALSE).laid(outside).rows, {"a": (1, 1, 1, 1, 5, 5, 7)})

    def test_laid_at_new_numbers_of_all_arrays(self):
        high = ("all", ("k",), ("in", "k", ("", 0), ("n", 0)), ("val", "<", ("", 0), ("a", "k", 0, 0)))
        made = Situation(WIDE, {"a": (1, 2, 0, 4), "b": (5, 6, 7, 8), "c": (1, 2, 3, 4, 5, 6)}, {"i": 9, "j": -9},
                         {"x": 0, "y": 1})
        laid = Question(WIDE, (), high).laid(made)
        self.assertEqual(laid.rows, {"a": (1, 1, 0, 0), "b": (5, 5, 7, 7), "c": (1, 1, 3, 3, 5, 5)})
        self.assertEqual((laid.positions, laid.amounts), (made.positions, made.amounts))
        self.assertEqual(str(Question(WIDE, (), high).laid(Situation(
            WIDE, {"a": (), "b": (), "c": (1, 2)}, {"i": 0, "j": 0}, {"x": 0, "y": 0}))),
            "a=- b=- c=1 1 | i=0 j=0 | x=0 y=0")

    def test_laid_again_is_the_same(self):
        maker = Maker(WIDE, 41)
        for _ in range(60):
            question = Question(WIDE, (maker.claim(), maker.claim()), maker.claim())
            situation = maker.situation()
            laid = question.laid(situation)
            self.assertEqual((laid.positions, laid.amounts, laid.lengths),
                             (situation.positions, situation.amounts, situation.lengths))
            for word, number in question.members:
                if not word.startswith("*"):
                    for array in ("a", "b", "c"):
                        at = situation.position_at((word, number))
                        self.assertEqual(laid.cell(array, at), situation.cell(array, at))

    def test_laid_at_the_greatest_member(self):
        maker = Maker(WIDE, 42)
        for _ in range(60):
            question = Question(WIDE, (maker.claim(),), maker.claim())
            situation = maker.situation(most=7)
            numbers = dict(zip(question.fresh, question.new_numbers(situation)))
            places = [numbers[word] if word in numbers else situation.position_at((word, number))
                      for word, number in question.members]
            laid = question.laid(situation)
            for array in ("a", "b", "c"):
                for place in range(len(situation.rows[array])):
                    nearest = max([at for at in places if at <= place])
                    self.assertEqual(laid.cell(array, place), situation.cell(array, nearest))

    def test_errors(self):
        for call in (BROKEN.new_numbers, BROKEN.laid, BROKEN.small):
            for value in odd_values() + [SHOWN.for_frame(TURNED), None]:
                if value is not SHOWN:
                    self.assertRaises(InvalidSituation, call, value)
        self.assertRaises(InvalidOperation, NEXT.small, SHOWN)
        self.assertRaises(InvalidOperation, BROKEN.small, SHOWN.with_cell("a", 2, 5))
        self.assertRaises(InvalidSituation, NEXT.small, SHOWN.for_frame(TURNED))


class Small(unittest.TestCase):
    def check_small(self, question, situation):
        made = question.small(situation)
        self.assertTrue(question.is_broken_by(made))
        self.assertEqual(made.frame, situation.frame)
        for number in list(made.lengths.values()):
            self.assertTrue(0 <= number <= question.few)
        for number in made.positions.values():
            self.assertTrue(-question.few <= number <= question.few)
        return made

    def test_of_a_small_one(self):
        self.check_small(BROKEN, SHOWN)

    def test_of_a_great_one(self):
        row = tuple([k % 5 for k in range(3000)]) + (9,) + tuple([k % 7 for k in range(2000)])
        great = Situation(FRAME, {"a": row}, {"i": 3000, "j": -SIXTY}, {"x": 5})
        self.assertTrue(BROKEN.is_broken_by(great))
        made = self.check_small(BROKEN, great)
        self.assertLess(len(made), 100)
        self.check_small(BROKEN, great.with_number("j", SIXTY))

    def test_positions_far_away(self):
        far = ("and", (("pos", "<", ("i", 5), ("j", 0)), ("pos", "<", ("n", 3), ("i", 0))))
        question = Question(FRAME, (far,), FALSE)
        self.check_small(question, Situation(FRAME, {"a": (1, 2)}, {"i": 10 ** 50, "j": SIXTY}, {"x": SIXTY}))
        below = Question(FRAME, (("pos", "<", ("i", 2), ("j", 0)), ("pos", "<", ("j", 4), ("", 0))), FALSE)
        self.check_small(below, Situation(FRAME, {"a": (1, 2)}, {"i": -SIXTY, "j": -(10 ** 50)}, {"x": 0}))

    def test_two_lengths(self):
        claim = ("all", ("k",), ("in", "k", ("", 0), ("m", 0)), ("val", "==", ("c", "k", 0, 0), ("x", 0)))
        question = Question(WIDE, (("pos", "<", ("n", 1), ("m", 0)),), claim)
        made = self.check_small(question, Situation(
            WIDE, {"a": (7,) * 300, "b": (8,) * 300, "c": (3,) * 900 + (4,) + (3,) * 50},
            {"i": 3, "j": 4}, {"x": 3, "y": 0}))
        self.assertLess(made.lengths["n"] + 1, made.lengths["m"])

    def test_kept_differences(self):
        equal = ("and", (("pos", "==", ("i", 3), ("j", -3)), ("pos", "==", ("j", 2), ("n", 1))))
        question = Question(FRAME, (equal, ("val", "==", ("a", "i", 2, 0), ("", 8))), FALSE)
        row = tuple([k for k in range(400)])
        situation = Situation(FRAME, {"a": row}, {"i": 393, "j": 399}, {"x": 0}).with_cell("a", 395, 8)
        made = self.check_small(question, situation)
        self.assertEqual(made.positions["j"] - made.positions["i"], 6)
        self.assertEqual(made.value_at(("a", "i", 2, 0)), 8)

    def test_long_integers(self):
        question = Question(FRAME, (("pos", "<", ("i", SIXTY), ("j", -SIXTY)),), FALSE)
        situation = Situation(FRAME, {"a": (SIXTY,)}, {"i": -SIXTY, "j": SIXTY}, {"x": -SIXTY})
        self.assertFalse(question.is_broken_by(situation))
        question = Question(FRAME, (("pos", "<", ("i", SIXTY - 5), ("j", 1 - SIXTY)),), FALSE)
        self.assertTrue(question.is_broken_by(situation))
        self.check_small(question, situation)

    def test_made_ones(self):
        broken = 0
        for seed, frame in ((51, FRAME), (52, WIDE), (53, Frame((("a", "n"), ("c", "m")), ("i",), ()))):
            maker = Maker(frame, seed)
            for _ in range(400):
                question = Question(frame, (maker.claim(), maker.claim()), maker.claim())
                situation = maker.situation(most=9, reach=maker.rng.choice([3, 40]))
                truth = naive(situation, question.claims[0]) and naive(situation, question.claims[1])
                truth = truth and not naive(situation, question.goal)
                self.assertIs(question.is_broken_by(situation), truth)
                if truth:
                    broken += 1
                    self.check_small(question, situation)
                    self.assertTrue(question.is_broken_by(question.laid(situation)))
                else:
                    self.assertRaises(InvalidOperation, question.small, situation)
        self.assertGreater(broken, 60)

    def test_made_ones_in_much_greater_situations(self):
        broken = 0
        maker = Maker(FRAME, 54)
        for _ in range(250):
            question = Question(FRAME, (maker.claim(),), maker.claim())
            values = maker.situation()
            row = [maker.rng.choice([0, 0, 0, 0, 1])] * 150
            for _ in range(3):
                row[maker.rng.randrange(150)] = maker.number()
            situation = Situation(FRAME, {"a": tuple(row)}, {"i": maker.rng.choice([-900, 0, 20, 149, 150, 900]),
                                                             "j": maker.rng.choice([-1, 70, 151, SIXTY])}, values.amounts)
            if question.is_broken_by(situation):
                broken += 1
                self.check_small(question, situation)
        self.assertGreater(broken, 20)

    def test_new_numbers_are_failures(self):
        maker = Maker(WIDE, 55)
        for _ in range(100):
            claim, situation = maker.all(), maker.situation()
            found = naive_failures(situation, claim)
            expected = found[0] if found else (0,) * len(claim[1])
            self.assertEqual(Question(WIDE, (), claim).new_numbers(situation), expected)


class Others(unittest.TestCase):
    def test_with_given(self):
        made = BROKEN.with_given(FALSE)
        self.assertEqual((made.claims, made.goal, made.frame), ((UPTO, FALSE), BROKEN.goal, FRAME))
        self.assertEqual(BROKEN.claims, (UPTO,))
        self.assertTrue(Question(FRAME, (TRUE,) * 39, TRUE).with_given(TRUE) == Question(FRAME, (TRUE,) * 40, TRUE))

    def test_with_given_errors(self):
        whole = Question(FRAME, (TRUE,) * 40, TRUE)
        self.assertRaises(InvalidOperation, whole.with_given, TRUE)
        for value in odd_values():
            self.assertRaises(InvalidClaim, whole.with_given, value)
            self.assertRaises(InvalidClaim, BROKEN.with_given, value)
            self.assertRaises(InvalidClaim, BROKEN.wanting, value)

    def test_without_given(self):
        question = Question(FRAME, (TRUE, UPTO, FALSE), TRUE)
        self.assertEqual([question.without_given(k).claims for k in range(3)],
                         [(UPTO, FALSE), (TRUE, FALSE), (TRUE, UPTO)])
        self.assertEqual(question.without_given(0).goal, TRUE)
        for place in (-1, 3, True, False, None, "0", LONGER, (0,), [], FRAME, 10 ** 99):
            error = raised(question.without_given, place)
            self.assertIsInstance(error, InvalidNumber)
            self.assertEqual(error.number, place)

    def test_wanting(self):
        made = NEXT.wanting(TRUE)
        self.assertEqual((made.claims, made.goal), (NEXT.claims, TRUE))
        self.assertEqual(made.fresh, ())


if __name__ == "__main__":
    unittest.main()

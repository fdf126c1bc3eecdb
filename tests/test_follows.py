"""Part 2d: what follows, papers, and askers."""

import random
import time
import unittest

from forkcells.base.frames import Frame
from forkcells.decide.follows import Asker, breaking, follows, is_paper, paper
from forkcells.decide.search import Search
from forkcells.decide.strategies import STRATEGIES
from forkcells.errors import (InvalidClaim, InvalidFrame, InvalidNumber, InvalidOperation, InvalidQuestion,
                              NothingToUndo, Refused, TooMany)
from forkcells.logic.claims import carried, renamed_claim, replaced
from forkcells.solve.questions import Question
from forkcells.solve.trees import Closing, facts_at, is_tree
from forkcells.world.situations import Situation
from hard_questions import (FALSE, HARD, ascending, at, between, both, cell, inside, le, lt, some, two_values, unlike,
                            veq, vle, vlt)
from naive_trees import is_naive_tree
from samples import BROKEN, FRAME, Maker, NEXT, SHOWN, SIXTY, UPTO, WIDE, naive, odd_values, raised

NOUGHT, END = ("", 0), ("n", 0)
TRUE = both()


def naive_breaks(question, situation):
    return all([naive(situation, claim) for claim in question.claims]) and not naive(situation, question.goal)


def random_question(seed):
    frames = (FRAME, WIDE, Frame((("a", "n"), ("b", "n")), ("i", "j", "h"), ("x",)), Frame((), ("i", "j"), ("x", "y")))
    maker = Maker(frames[seed % len(frames)], seed)
    given = tuple([maker.claim() for _ in range(maker.rng.randrange(5))])
    return Question(maker.frame, given, maker.claim()), maker


def small_questions(first, many):
    """So many questions that are not too great, with their makers."""
    found = []
    for seed in range(first, first + many):
        question, maker = random_question(seed)
        if len(question.members) <= 16 and question.few <= 1000:
            found.append((question, maker))
    return found


class Examples(unittest.TestCase):
    def test_questions(self):
        self.assertEqual([follows(NEXT), follows(BROKEN), breaking(NEXT), BROKEN.is_broken_by(breaking(BROKEN)),
                          paper(NEXT)[0]], [True, False, None, True, "follows"])

    def test_asker(self):
        asker = Asker(FRAME)
        claim = ("val", "<=", ("a", "i", -1, 0), ("x", 0))
        self.assertEqual([asker.tell(UPTO), asker.ask(claim), asker.tell(("pos", "<", ("", 0), ("i", 0))),
                          asker.ask(claim), str(asker)], [True, "open", True, "yes", "asker with 2 claims"])


class Small(unittest.TestCase):
    """Questions with a known answer: pairs of claims of which the second follows, or not."""

    def check(self, frame, given, goal, expected):
        question = Question(frame, tuple(given), goal)
        self.assertIs(follows(question), expected, (given, goal))
        found = paper(question)
        self.assertTrue(is_paper(question, found))
        self.assertEqual(found[0], "follows" if expected else "broken")
        situation = breaking(question)
        self.assertIs(situation is None, expected)
        if not expected:
            self.assertTrue(naive_breaks(question, situation))

    def test_atoms(self):
        i, j, x, y = ("i", 0), ("j", 0), ("x", 0), ("a", "i", 0, 0)
        self.check(FRAME, [lt(i, j)], le(("i", 1), j), True)
        self.check(FRAME, [lt(i, j)], lt(("i", 1), j), False)
        self.check(FRAME, [le(i, j), le(j, i)], ("pos", "==", i, j), True)
        self.check(FRAME, [("pos", "==", i, j)], veq(y, ("a", "j", 0, 0)), True)
        self.check(FRAME, [("pos", "==", i, ("j", 1))], veq(y, ("a", "j", 0, 0)), False)
        self.check(FRAME, [vlt(x, y)], vle(("x", 1), y), True)
        self.check(FRAME, [vlt(x, y)], vlt(("x", 1), y), False)
        self.check(FRAME, [], le(("", 0), END), True)
        self.check(FRAME, [], le(("", 1), END), False)
        self.check(FRAME, [unlike(y, ("a", "j", 0, 0))], ("not", ("pos", "==", i, j)), True)

    def test_cells_outside(self):
        i, value = ("i", 0), ("a", "i", 0, 0)
        self.check(FRAME, [lt(i, NOUGHT)], veq(value, NOUGHT), True)
        self.check(FRAME, [le(END, i)], veq(value, NOUGHT), True)
        self.check(FRAME, [lt(END, i)], veq(("a", "i", -1, 0), NOUGHT), True)
        self.check(FRAME, [le(END, i)], veq(("a", "i", -1, 0), NOUGHT), False)
        self.check(FRAME, [vlt(NOUGHT, value)], both(le(NOUGHT, i), lt(i, END)), True)
        self.check(FRAME, [vle(NOUGHT, value)], both(le(NOUGHT, i), lt(i, END)), False)
        self.check(FRAME, [], veq(("a", "n", 0, 0), NOUGHT), True)
        self.check(FRAME, [], veq(("a", "", -1, 0), NOUGHT), True)
        self.check(FRAME, [], veq(("a", "n", -1, 0), NOUGHT), False)

    def test_lengths_of_nought(self):
        empty = ("pos", "==", END, NOUGHT)
        self.check(FRAME, [empty], veq(("a", "", 0, 0), NOUGHT), True)
        self.check(FRAME, [empty], veq(("a", "n", -1, 0), ("a", "", 0, 0)), True)
        self.check(FRAME, [empty], between(NOUGHT, END, vlt(("x", 1), ("x", 0))), True)
        self.check(FRAME, [le(END, ("", 1))], veq(("a", "", 0, 0), NOUGHT), False)
        self.check(WIDE, [("pos", "==", END, NOUGHT)], veq(("b", "i", 0, 1), ("a", "j", 0, 1)), True)
        self.check(WIDE, [("pos", "==", END, NOUGHT)], veq(("c", "i", 0, 1), ("a", "j", 0, 1)), False)

    def test_ors_and_nots(self):
        i, j = ("i", 0), ("j", 0)
        self.check(FRAME, [some(lt(i, j), lt(j, i))], ("not", ("pos", "==", i, j)), True)
        self.check(FRAME, [("not", ("pos", "==", i, j))], some(lt(i, j), lt(j, i)), True)
        self.check(FRAME, [("not", some(lt(i, j), lt(j, i)))], ("pos", "==", i, j), True)
        self.check(FRAME, [("not", both(lt(i, j), lt(j, i)))], FALSE, False)
        self.check(FRAME, [FALSE], FALSE, True)
        self.check(FRAME, [], TRUE, True)
        self.check(FRAME, [], FALSE, False)
        self.check(FRAME, [], ("not", FALSE), True)
        self.check(FRAME, [("not", ("not", lt(i, j)))], lt(i, j), True)
        self.check(FRAME, [some(both(lt(i, j), lt(j, i)), ("not", TRUE))], FALSE, True)

    def test_alls_of_one_name(self):
        for op in ("<=", "<", "=="):
            body = ("val", op, ("a", "k", 0, 0), ("x", 0))
            whole = between(NOUGHT, END, body)
            at_i = ("val", op, ("a", "i", 0, 0), ("x", 0))
            self.check(FRAME, [whole, le(NOUGHT, at("i")), lt(at("i"), END)], at_i, True)
            self.check(FRAME, [whole, le(NOUGHT, at("i")), le(at("i"), END)], at_i, False)
            self.check(FRAME, [whole], between(at("i"), at("j"), body), False)
            self.check(FRAME, [whole, le(NOUGHT, at("i")), le(at("j"), END)], between(at("i"), at("j"), body), True)
            self.check(FRAME, [("not", at_i), le(NOUGHT, at("i")), lt(at("i"), END)], ("not", whole), True)
            self.check(FRAME, [("not", whole)], some(lt(NOUGHT, END), le(END, NOUGHT)), True)
            self.check(FRAME, [("not", whole)], lt(NOUGHT, END), True)

    def test_guards_without_in(self):
        body = vle(cell("a", at("k")), at("x"))
        upto = ("all", ("k",), le(at("k"), at("i")), body)
        self.check(FRAME, [upto, le(at("j"), at("i"))], vle(cell("a", at("j")), at("x")), True)
        self.check(FRAME, [upto, le(at("j"), at("i", 1))], vle(cell("a", at("j")), at("x")), False)
        self.check(FRAME, [("all", ("k",), ("pos", "==", at("k"), at("i", 2)), body)],
                   vle(cell("a", at("i", 2)), at("x")), True)
        self.check(FRAME, [("all", ("k",), ("and", ()), body)], vle(NOUGHT, at("x")), True)
        self.check(FRAME, [("all", ("k",), ("in", "k", NOUGHT, END), body)], vle(NOUGHT, at("x")), False)

    def test_alls_of_two_names(self):
        i, j = cell("a", at("i")), cell("a", at("j"))
        rows = [ascending("a", NOUGHT, END)]
        there = [le(NOUGHT, at("i")), lt(at("j"), END)]
        self.check(FRAME, rows + there + [le(at("i"), at("j"))], vle(i, j), True)
        self.check(FRAME, rows + there, vle(i, j), False)
        self.check(FRAME, rows + [vlt(j, i), vlt(NOUGHT, j), vlt(NOUGHT, i)], lt(at("j"), at("i")), True)
        self.check(FRAME, rows, ascending("a", at("i"), at("j")), False)
        self.check(FRAME, rows + there, ascending("a", at("i"), at("j")), True)
        self.check(FRAME, [("not", ascending("a", at("i"), at("j")))], lt(at("i", 1), at("j")), True)
        self.check(FRAME, [("not", ascending("a", at("i"), at("j")))], lt(at("i", 2), at("j")), False)

    def test_several_negative_alls(self):
        frame = Frame((("a", "n"),), ("i", "j"), ("x", "y"))
        some_above = ("not", between(NOUGHT, END, vle(cell("a", at("k")), at("x"))))
        some_below = ("not", between(NOUGHT, END, vle(at("y"), cell("a", at("k")))))
        self.check(frame, [some_above, some_below, le(END, ("", 1))], vlt(at("x", 1), at("y")), True)
        self.check(frame, [some_above, some_below, le(END, ("", 2))], vlt(at("x", 1), at("y")), False)
        self.check(frame, [some_above, some_above], ("not", between(NOUGHT, END, veq(at("x"), cell("a", at("k"))))),
                   True)
        self.check(frame, [("not", ascending("a", NOUGHT, END))] * 3, lt(("", 1), END), True)

    def test_own_names_like_new_names(self):
        whole = ("all", ("p", "q"), both(("in", "p", NOUGHT, END), ("in", "q", NOUGHT, END)),
                 veq(cell("a", at("p")), cell("a", at("q"))))
        self.check(FRAME, [whole], ("not", ("not", whole)), True)
        self.check(FRAME, [whole, ("not", between(NOUGHT, END, vle(cell("a", at("k")), at("x"))))],
                   between(NOUGHT, END, vlt(at("x"), cell("a", at("k")))), True)

    def test_constants_alone(self):
        bare = Frame((), (), ("x",))
        self.check(bare, [], lt(("", SIXTY - 1), ("", SIXTY)), True)
        self.check(bare, [le(("", SIXTY), ("", -SIXTY))], FALSE, True)
        self.check(bare, [some(le(("", -SIXTY), ("", SIXTY)), lt(NOUGHT, NOUGHT))], FALSE, False)
        self.check(bare, [some(both(le(("", -SIXTY), ("", SIXTY)), vlt(at("x"), at("x"))), lt(NOUGHT, NOUGHT))],
                   FALSE, True)
        self.check(Frame((), (), ()), [], FALSE, False)
        self.check(bare, [("all", ("k",), ("in", "k", ("", SIXTY - 1), ("", SIXTY)), vlt(at("x"), at("x")))], FALSE,
                   True)

    def test_sixty_digits_in_values(self):
        i = cell("a", at("i"))
        self.check(FRAME, [vle(at("x", SIXTY), i)], vlt(at("x", SIXTY - 1), i), True)
        self.check(FRAME, [vle(at("x", SIXTY), i)], vlt(at("x", SIXTY), i), False)
        chain = [vle(cell("a", at("i"), SIXTY), cell("a", at("j"))), vle(cell("a", at("j"), SIXTY), at("x"))]
        self.check(FRAME, chain, vle(i, at("x", -SIXTY)), True)
        self.check(FRAME, chain, vle(at("x"), i), False)
        found = breaking(Question(FRAME, tuple(chain), FALSE))
        numbers = list(found.rows["a"]) + list(found.amounts.values())
        self.assertLess(max([abs(number) for number in numbers]), 10 ** 70)


class Papers(unittest.TestCase):
    def test_random_questions_have_papers(self):
        answers = {True: 0, False: 0}
        for question, _ in small_questions(0, 700):
            found = paper(question)
            answer = follows(question)
            answers[answer] += 1
            self.assertTrue(is_paper(question, found))
            self.assertEqual(found[0], "follows" if answer else "broken")
            if answer:
                self.assertTrue(is_naive_tree(question, found[1]))
                self.assertIsNone(breaking(question))
                self.assertLessEqual(len(found[1]), 5000)
            else:
                for situation in (found[1], breaking(question)):
                    self.assertTrue(naive_breaks(question, situation))
                    for number in situation.lengths.values():
                        self.assertLessEqual(number, question.few)
                    for number in situation.positions.values():
                        self.assertLessEqual(abs(number), question.few)
        self.assertGreater(min(answers.values()), 200)

    def test_nothing_breaks_what_follows(self):
        looked = 0
        for question, maker in small_questions(2000, 250):
            if follows(question):
                for _ in range(60):
                    looked += 1
                    self.assertFalse(question.is_broken_by(maker.situation()))
        self.assertGreater(looked, 3000)

    def test_all_few_cells_of_tiny_questions(self):
        frame = Frame((("a", "n"),), ("i",), ())
        situations = []
        for many in range(4):
            rows = [()]
            for _ in range(many):
                rows = [row + (content,) for row in rows for content in (-1, 0, 1)]
            situations += [Situation(frame, {"a": row}, {"i": i}, {}) for row in rows for i in range(-1, 4)]
        answers = {True: 0, False: 0}
        for seed in range(120):
            maker = Maker(frame, seed)
            question = Question(frame, tuple([maker.claim() for _ in range(seed % 4)]), maker.claim())
            answer = follows(question)
            answers[answer] += 1
            if answer:
                self.assertFalse([one for one in situations if question.is_broken_by(one)])
        self.assertGreater(min(answers.values()), 20)

    def test_equal_calls_return_equal_papers(self):
        for question, _ in small_questions(300, 60):
            same = Question(question.frame, question.claims, question.goal)
            self.assertTrue(paper(question)[1] == paper(same)[1])

    def test_near_the_limits(self):
        for name, (expected, question) in HARD.items():
            begin = time.process_time()
            found = paper(question)
            self.assertEqual(found[0], "follows" if expected else "broken", name)
            self.assertIs(follows(question), expected, name)
            self.assertTrue(is_paper(question, found), name)
            self.assertLess(time.process_time() - begin, 30, name)
            if expected:
                self.assertLessEqual(len(found[1]), 5000, name)
            else:
                self.assertTrue(naive_breaks(question, found[1]) if question.few < 30 else True, name)
                self.assertLessEqual(max(found[1].lengths.values(), default=0), question.few)

    def test_papers_where_questions_just_begin_to_follow(self):
        """Claims are told one after the other, as long as something has them all; then one is too much."""
        frame = Frame((("a", "n"), ("b", "n")), ("i", "j", "h", "g"), ("x", "y"))
        for seed in range(12):
            rng = random.Random(seed)
            terms = [(word, shift) for word in ("i", "j", "h", "g", "n", "") for shift in (0, 1)]
            terms = rng.sample(terms, 7)

            def amount():
                if rng.random() < 0.3:
                    return (rng.choice(["x", "y", ""]), rng.randrange(2))
                return (rng.choice("ab"),) + rng.choice(terms) + (0,)

            def literal():
                sign = rng.choice(["<=", "<", "=="])
                atom = ("val", sign, amount(), amount())
                if rng.random() < 0.5:
                    atom = ("pos", sign, rng.choice(terms), rng.choice(terms))
                return ("not", atom) if rng.random() < 0.3 else atom

            def claim():
                chance = rng.random()
                if chance < 0.7:
                    return some(*[literal() for _ in range(rng.choice([2, 3]))])
                if chance < 0.8:
                    return literal()
                body = ("val", rng.choice(["<=", "=="]), cell("a", at("k")), rng.choice([at("x"), cell("b", at("k"))]))
                whole = ("all", ("k",), ("in", "k", rng.choice(terms), rng.choice(terms)), body)
                return whole if chance < 0.95 else ("not", whole)
            asker = Asker(frame)
            refused = 0
            while len(asker) < 39 and refused < 3:
                made = claim()
                error = raised(asker.tell, made)
                if error is not None:
                    refused += 1
                    self.assertIsInstance(error, Refused)
                    question = Question(frame, asker.known + (made,), FALSE)
                    self.assertTrue(is_tree(question, error.reason))
                    self.assertLessEqual(len(error.reason), 5000)

    def test_papers_of_others(self):
        closing = Closing(NEXT)
        for step in (lambda: closing.new(3, ("q",)), lambda: closing.part(4, 0), lambda: closing.part(4, 1),
                     lambda: closing.use(1, (("q", 0),)), lambda: closing.apart(("q", 0), ("i", 0))):
            step()
        # q is less than i, greater than i, or i itself.
        closing.cases(8), closing.cases(10)
        closing.ring(((11, 0), (6, 0))), closing.ring(((11, 0), (9, 0))), closing.ring(((10, 0), (5, 0)))
        closing.ring(((9, 0), (7, 0)))
        closing.same("a", 9)
        closing.ring(((5, 0), (10, 0), (2, 0)))
        self.assertTrue(closing)
        self.assertTrue(is_paper(NEXT, ("follows", closing.tree)))
        # One with a node that is not needed, and the situation of the document.
        longer = (("part", 3, 0, 1),)
        self.assertFalse(is_paper(NEXT, ("follows", longer + closing.tree)))
        self.assertTrue(is_paper(BROKEN, ("broken", SHOWN)))
        self.assertTrue(is_paper(BROKEN, ("broken", BROKEN.laid(SHOWN))))
        great = SHOWN.with_number("j", 10 ** 59)
        self.assertTrue(is_paper(BROKEN, ("broken", great)))

    def test_near_values_are_no_papers(self):
        good, bad = paper(NEXT), paper(BROKEN)
        for value in odd_values():
            self.assertFalse(is_paper(NEXT, value))
            self.assertFalse(is_paper(NEXT, ("follows", value)))
            self.assertFalse(is_paper(NEXT, ("broken", value)))
            self.assertFalse(is_paper(NEXT, (value, good[1])))
            self.assertIs(is_paper(BROKEN, ("broken", value)), False if value is not SHOWN else True)
        self.assertFalse(is_paper(NEXT, ("follows", paper(Question(FRAME, (), TRUE))[1])))
        self.assertFalse(is_paper(BROKEN, good))
        self.assertFalse(is_paper(NEXT, bad))
        self.assertFalse(is_paper(NEXT, list(good)))
        self.assertFalse(is_paper(NEXT, good + (1,)))
        self.assertFalse(is_paper(NEXT, ("broken", good[1])))
        self.assertFalse(is_paper(BROKEN, ("follows", bad[1])))
        self.assertFalse(is_paper(BROKEN, ("broken", SHOWN.with_number("i", 1))))
        self.assertFalse(is_paper(BROKEN, ("broken", bad[1].for_frame(Frame((("a", "n"),), ("i",), ("x",))))))
        for k in range(len(good[1])):
            self.assertFalse(is_paper(NEXT, ("follows", good[1][:k] + good[1][k + 1:])))

    def test_facts_of_trees_can_be_asked(self):
        tree = paper(NEXT)[1]
        self.assertEqual(facts_at(NEXT, tree, 0), NEXT.facts)


class Limits(unittest.TestCase):
    def calls(self):
        return (follows, breaking, paper)

    def test_seventeen_members(self):
        """-1, 0, n and the cells at so many positions and shifts."""
        def question(many, number=0):
            given = [vle(NOUGHT, cell("a", at("i", k))) for k in range(many)]
            return Question(FRAME, tuple(given), le(at("i", number), END))
        self.assertEqual(len(question(13).members), 16)
        for call in self.calls():
            self.assertIsNone(raised(call, question(13)))
            error = raised(call, question(14))
            self.assertIsInstance(error, TooMany)
            self.assertEqual(error.bound, 16)
            # Both limits are exceeded: the first one is named.
            self.assertEqual(raised(call, question(14, 1000)).bound, 16)
            self.assertEqual(raised(call, question(13, 1000)).bound, 1000)

    def test_a_few_of_a_thousand(self):
        words = tuple("bcdefghi")
        frame = Frame((), words, ())
        exact = Question(frame, (le(at("b", 62), at("c")),), lt(at("b", 61), at("c")))
        above = Question(frame, (le(at("b", 63), at("c")),), lt(at("b", 61), at("c")))
        self.assertEqual((exact.few, above.few), (1000, 1016))
        self.assertTrue(follows(exact))
        for call in self.calls():
            self.assertEqual(raised(call, above).bound, 1000)

    def test_too_many_needs_a_question(self):
        for call in self.calls() + (lambda value: is_paper(value, None),):
            for value in odd_values():
                if not isinstance(value, Question):
                    self.assertIsInstance(raised(call, value), InvalidQuestion)

    def test_is_paper_has_no_limits(self):
        words = tuple("bcdefghi")
        frame = Frame((), words, ())
        question = Question(frame, (le(at("b", 10 ** 6), at("c")),), le(at("b"), at("c")))
        self.assertTrue(is_paper(question, ("follows", (("ring", ((0, 0), (1, 0))),))))
        self.assertFalse(is_paper(question, ("follows", (("ring", ((1, 0), (0, 0), (0, 0))),))))


class GoesOn(unittest.TestCase):
    """[2.5]"""

    def following(self, first, many):
        return [(question, maker) for question, maker in small_questions(first, many) if follows(question)]

    def test_with_more_given_claims(self):
        for question, maker in self.following(5000, 120):
            more = Question(question.frame, (maker.claim(),) + question.claims + (maker.claim(),), question.goal)
            if len(more.members) <= 16 and more.few <= 1000:
                self.assertTrue(follows(more))

    def test_with_other_names(self):
        for question, maker in self.following(6000, 120):
            frame = question.frame
            words = [word for pair in frame.arrays for word in pair] + list(frame.positions + frame.amounts)
            words = sorted(set(words))
            others = words[1:] + words[:1] if maker.rng.random() < 0.5 else ["q" + word for word in words]
            names = dict(zip(words, others))
            claims = [renamed_claim(frame, claim, names) for claim in question.claims + (question.goal,)]
            self.assertTrue(follows(Question(frame.renamed(names), tuple(claims[:-1]), claims[-1])))

    def test_with_terms_in_the_place_of_names(self):
        checked = 0
        for question, maker in self.following(7000, 160):
            frame = question.frame
            terms = {word: maker.place() for word in frame.positions if maker.rng.random() < 0.6}
            terms.update({word: maker.amount() for word in frame.amounts if maker.rng.random() < 0.6})
            claims = [replaced(frame, claim, terms) for claim in question.claims + (question.goal,)]
            made = Question(frame, tuple(claims[:-1]), claims[-1])
            if len(made.members) <= 16 and made.few <= 1000:
                checked += 1
                self.assertTrue(follows(made))
        self.assertGreater(checked, 40)

    def test_carried_to_another_frame(self):
        target = Frame((("b", "k"), ("c", "k")), ("p",), ("v",))
        for question, _ in [one for one in self.following(8000, 160) if one[0].frame == FRAME]:
            terms = {"i": ("p", 1), "j": ("k", -1), "x": ("b", "p", 0, 2)}
            claims = [carried(FRAME, claim, target, {"a": "c"}, terms) for claim in question.claims + (question.goal,)]
            made = Question(target, tuple(claims[:-1]), claims[-1])
            if len(made.members) <= 16:
                self.assertTrue(follows(made))


class Askers(unittest.TestCase):
    def test_tell(self):
        asker = Asker(FRAME)
        self.assertIs(asker.tell(le(at("i"), at("j"))), True)
        self.assertIs(asker.tell(UPTO), True)
        self.assertEqual(asker.known, (le(at("i"), at("j")), UPTO))
        wrong = both(lt(at("j"), at("i")), TRUE)
        error = raised(asker.tell, wrong)
        self.assertIsInstance(error, Refused)
        self.assertTrue(is_tree(Question(FRAME, asker.known + (wrong,), ("or", ())), error.reason))
        self.assertFalse(is_tree(Question(FRAME, (wrong,) + asker.known, ("or", ())), error.reason))
        self.assertEqual(len(asker), 2)
        self.assertIs(asker.tell(UPTO), True)
        self.assertEqual(len(asker), 3)

    def test_what_is_refused_with_nothing_known(self):
        error = raised(Asker(FRAME).tell, FALSE)
        self.assertIsInstance(error, Refused)
        self.assertEqual(error.reason, (("cases", 1, ()),))

    def test_three_answers(self):
        asker = Asker(FRAME)
        asker.tell(lt(at("i"), at("j")))
        self.assertEqual([asker.ask(le(at("i"), at("j"))), asker.ask(lt(at("j"), at("i"))), asker.ask(lt(at("i"), END))],
                         ["yes", "no", "open"])
        asker.tell(le(at("j"), NOUGHT))
        self.assertEqual([asker.ask(le(at("i"), at("j"))), asker.ask(lt(at("j"), at("i"))), asker.ask(lt(at("i"), END))],
                         ["yes", "no", "yes"])
        # A claim that is told contradicts what is asked, and the other way round.
        asker.tell(between(NOUGHT, END, vle(cell("a", at("k")), at("x"))))
        self.assertEqual(asker.ask(("not", between(NOUGHT, END, vle(cell("a", at("k")), at("x"))))), "no")
        self.assertEqual(asker.ask(("not", between(NOUGHT, END, vle(cell("a", at("k")), at("x", -1))))), "open")

    def test_claims_twelve_deep(self):
        claim = lt(at("i"), at("i"))
        for _ in range(11):
            claim = ("and", (claim,))
        self.assertEqual(Asker(FRAME).ask(claim), "no")
        self.assertEqual(Asker(FRAME).why(claim)[0], "broken")
        self.assertIsInstance(raised(Asker(FRAME).ask, ("and", (claim,))), InvalidClaim)
        self.assertIsInstance(raised(Asker(FRAME).tell, claim), Refused)

    def test_why(self):
        asker = Asker(FRAME)
        asker.tell(lt(at("i"), at("j")))
        for claim, word in ((le(at("i"), at("j")), "follows"), (lt(at("j"), at("i")), "broken"),
                            (lt(at("i"), END), "broken")):
            question = Question(FRAME, asker.known, claim)
            self.assertEqual(asker.why(claim)[0], word)
            self.assertTrue(is_paper(question, asker.why(claim)))

    def test_thirtynine_known(self):
        asker = Asker(FRAME)
        for k in range(39):
            self.assertIs(asker.tell(le(at("i", k % 3), at("j"))), True)
        self.assertIsInstance(raised(asker.tell, TRUE), InvalidOperation)
        self.assertIsInstance(raised(asker.tell, None), InvalidClaim)
        self.assertIsInstance(raised(asker.tell, le(at("i", 10 ** 6), at("j"))), InvalidOperation)
        self.assertEqual([asker.ask(lt(at("i", 1), at("j"))), asker.ask(lt(at("j"), at("i"))), asker.ask(lt(at("i"), END))],
                         ["yes", "no", "open"])
        self.assertEqual(asker.why(lt(at("i", 1), at("j")))[0], "follows")
        asker.undo()
        self.assertIs(asker.tell(TRUE), True)

    def test_too_many(self):
        asker = Asker(FRAME)
        for k in range(13):
            asker.tell(vle(NOUGHT, cell("a", at("i", k))))
        one_more = vle(NOUGHT, cell("a", at("i", 13)))
        for call in (asker.tell, asker.ask, asker.why):
            self.assertEqual(raised(call, one_more).bound, 16)
            self.assertEqual(raised(call, le(at("i", 1000), END)).bound, 1000)
            self.assertIsInstance(raised(call, ("val", "<", 1, 2)), InvalidClaim)
        self.assertEqual(len(asker), 13)
        # The second question of `ask` has as many members; the wanted claim follows, so it is not asked.
        self.assertEqual(asker.ask(vle(NOUGHT, cell("a", at("i", 12)))), "yes")

    def test_undo(self):
        asker = Asker(FRAME)
        claims = [le(at("i"), at("j", k)) for k in range(4)]
        for claim in claims:
            asker.tell(claim)
        self.assertEqual(asker.undo(), (claims[3],))
        self.assertEqual(asker.undo(many=0), ())
        self.assertEqual(asker.undo(many=2), (claims[2], claims[1]))
        self.assertEqual(asker.known, (claims[0],))
        for many in (-1, True, None, "1", 10 ** 60, (1,)):
            error = raised(asker.undo, many=many)
            self.assertIsInstance(error, InvalidNumber)
            self.assertEqual(error.number, many)
        error = raised(asker.undo, many=2)
        self.assertIsInstance(error, NothingToUndo)
        self.assertEqual(error.asked, 2)
        self.assertEqual(asker.known, (claims[0],))
        asker.undo()
        self.assertEqual(asker.ask(claims[0]), "open")

    def test_answers_stay(self):
        maker = Maker(FRAME, 31)
        for seed in range(10):
            asker, asked = Asker(FRAME), [maker.claim() for _ in range(8)]
            answers = [asker.ask(claim) for claim in asked]
            for _ in range(5):
                raised(asker.tell, maker.claim())
                if len(Question(FRAME, asker.known, TRUE).members) > 9:
                    break
                for k, claim in enumerate(asked):
                    answer = asker.ask(claim)
                    if answers[k] != "open":
                        self.assertEqual(answer, answers[k])
                    answers[k] = answer

    def test_twin_and_equality(self):
        asker = Asker(FRAME)
        asker.tell(UPTO)
        twin = asker.twin()
        self.assertTrue(twin == asker)
        twin.tell(le(at("i"), at("j")))
        self.assertFalse(twin == asker)
        self.assertTrue(twin != asker)
        self.assertEqual((len(asker), len(twin)), (1, 2))
        asker.tell(le(at("i"), at("j")))
        self.assertTrue(twin == asker)
        other = Asker(FRAME)
        other.tell(le(at("i"), at("j"))), other.tell(UPTO)
        self.assertFalse(other == asker)
        self.assertFalse(Asker(FRAME) == Asker(WIDE))
        self.assertTrue(Asker(FRAME) == Asker(Frame((("a", "n"),), ("i", "j"), ("x",))))
        for value in odd_values():
            self.assertFalse(asker == value)

    def test_in(self):
        asker = Asker(FRAME)
        asker.tell(le(at("i", 1), at("j")))
        self.assertIn(le(at("i", 1), at("j")), asker)
        self.assertNotIn(le(at("i", True), at("j")), asker)
        self.assertNotIn(le(at("i"), at("j")), asker)
        for value in odd_values():
            self.assertNotIn(value, asker)

    def test_texts(self):
        asker = Asker(FRAME)
        self.assertEqual((str(asker), len(asker), asker.known), ("asker with 0 claims", 0, ()))
        self.assertRaises(TypeError, iter, asker)

    def test_wrong_frames(self):
        for value in odd_values():
            if not isinstance(value, Frame):
                self.assertIsInstance(raised(Asker, value), InvalidFrame)


class Strategies(unittest.TestCase):
    """Each strategy finds the same answers by itself; the shortest proof of all is written."""

    def check(self, question, name):
        answers = []
        for strategy in STRATEGIES:
            search = Search(question, strategy)
            search.run(20000)
            self.assertTrue(search.is_over(), name)
            answers.append(search.situation is None)
            if search.situation is None:
                self.assertTrue(is_tree(question, search.written()), name)
            else:
                self.assertTrue(question.is_broken_by(search.situation), name)
        self.assertEqual(len(set(answers)), 1, name)

    def test_random_questions(self):
        for k, (question, _) in enumerate(small_questions(9000, 200)):
            self.check(question, k)

    def test_hard_questions(self):
        for name in ("partition", "insertion", "wrong insertion", "three branches", "four writes", "four wrong writes",
                     "two values", "two wrong values", "least of six", "six in five", "new ones", "far apart, wrong"):
            self.check(HARD[name][1], name)

    def test_another_strategy_helps(self):
        question = HARD["least of eight"][1]
        first = Search(question, STRATEGIES[0])
        first.run(1000)
        self.assertFalse(first.is_over())
        self.assertLess(len(paper(question)[1]), 1000)


class Proportions(unittest.TestCase):
    """Trees stay small where a choice has nothing to do with what is wanted."""

    def test_choices_without_need(self):
        question = HARD["forty given"][1]
        self.assertLess(len(paper(question)[1]), 40)

    def test_members_are_enough(self):
        """Alls are used at members and new names alone."""
        for name in ("partition", "insertion", "three branches", "four writes"):
            question = HARD[name][1]
            members = [term for term in question.members if term[0][:1] != "*"]
            new = []
            for node in paper(question)[1]:
                if node[0] == "new":
                    new += [(word, 0) for word in node[2]]
            for node in paper(question)[1]:
                if node[0] == "at":
                    for term in node[2]:
                        self.assertIn(term, members + new)

    def test_two_values_of_many_cells(self):
        for many in (3, 4, 5, 6):
            expected, question = two_values(many)
            self.assertIs(follows(question), expected)

    def test_inside_of_arrays(self):
        words = "bcdefghi"
        frame = Frame((("a", "n"),), tuple(words), ())
        given = inside(words) + tuple([vlt(cell("a", at(one)), cell("a", at(other)))
                                       for one, other in zip(words, words[1:])])
        self.assertTrue(follows(Question(frame, given, ("not", ("pos", "==", at("b"), at("i"))))))
        self.assertFalse(follows(Question(frame, given, lt(("", 8), END))))
        self.assertTrue(follows(Question(frame, given[:3] + given[8:10], lt(("", 2), END))))


if __name__ == "__main__":
    unittest.main()

"""[2.3] and Part 2c: trees, and how they are made."""

import random
import unittest

from forkcells.base.frames import Frame
from forkcells.errors import InvalidNumber, InvalidOperation, InvalidQuestion, NothingToUndo
from forkcells.solve.questions import Question
from forkcells.solve.trees import Closing, facts_at, is_tree
from naive_trees import is_naive_tree
from samples import BROKEN, FALSE, FRAME, LONGER, NEXT, SIXTY, TRUE, UPTO, WIDE, odd_values, raised

LESS = ("pos", "<", ("i", 0), ("j", 0))
MORE = ("pos", "<", ("j", 0), ("i", 0))
SAME = ("pos", "==", ("i", 0), ("j", 0))
LESS_X = ("val", "<", ("x", 0), ("", 0))
SAME_X = ("val", "==", ("x", 0), ("", 0))
RING = ("ring", ((1, 0), (2, 0)))
Q = ("q", 0)

NEXT_TREE = (
    ("new", 3, ("q",), 1), ("part", 4, 0, 2), ("part", 4, 1, 3), ("apart", Q, ("i", 0), (4, 5, 6)),
    ("at", 1, (Q,), 7), ("ring", ((7, 0), (8, 0))), ("same", "a", 8, 12), ("cases", 9, (8, 9)),
    ("cases", 10, (10, 11)), ("ring", ((10, 0), (5, 0))), ("ring", ((11, 0), (6, 0))),
    ("ring", ((11, 0), (8, 0))), ("ring", ((5, 0), (9, 0), (2, 0))),
)


def asked(*given, frame=FRAME):
    """A question without a wanted claim: fact 0 is of the length, given ones begin with 1."""
    return Question(frame, tuple(given), FALSE)


def next_closing(many=13):
    """The steps of NEXT_TREE, in the order in which a closing comes to them."""
    closing = Closing(NEXT)
    steps = [lambda: closing.new(3, ("q",)), lambda: closing.part(4, 0), lambda: closing.part(4, 1),
             lambda: closing.apart(Q, ("i", 0)), lambda: closing.use(1, (Q,)), lambda: closing.cases(9),
             lambda: closing.cases(10), lambda: closing.ring(((11, 0), (6, 0))),
             lambda: closing.ring(((11, 0), (8, 0))), lambda: closing.ring(((10, 0), (5, 0))),
             lambda: closing.ring(((7, 0), (8, 0))), lambda: closing.same("a", 8),
             lambda: closing.ring(((5, 0), (9, 0), (2, 0)))]
    numbers = [step() for step in steps[:many]]
    return closing, numbers


class Example(unittest.TestCase):
    def test_example(self):
        closing = Closing(NEXT)
        self.assertEqual(
            [closing.new(3, ("q",)), closing.part(4, 0), closing.part(4, 1), closing.apart(("q", 0), ("i", 0)),
             closing.use(1, (("q", 0),))],
            [0, 1, 2, 3, 4])
        self.assertEqual(
            [closing.cases(9), closing.cases(10), closing.ring(((11, 0), (6, 0))), closing.facts[11],
             closing.open_nodes, str(closing)],
            [7, 8, 10, ("not", ("pos", "<", ("q", 0), ("i", 0))), (5, 6, 9, 11), "closing with 8 nodes, 4 open"])

    def test_whole_tree(self):
        self.assertTrue(is_tree(NEXT, NEXT_TREE))
        self.assertFalse(is_tree(BROKEN, NEXT_TREE))
        self.assertFalse(is_tree(NEXT.without_given(0), NEXT_TREE))
        self.assertTrue(is_tree(NEXT.wanting(UPTO), NEXT_TREE))
        self.assertFalse(is_tree(NEXT.wanting(TRUE), NEXT_TREE))
        closing, numbers = next_closing()
        self.assertEqual(numbers, [0, 1, 2, 3, 4, 7, 8, 10, 11, 9, 5, 6, 12])
        self.assertEqual(closing.tree, NEXT_TREE)


class Nodes(unittest.TestCase):
    """Each kind of node: what it is for, what makes it none, and what it adds."""

    def adds(self, question, node, *expected):
        """At node 0 it adds these tuples of facts, as many as it has next ones."""
        closing = Closing(question)
        self.step(closing, node)
        known = question.facts
        for facts in expected:
            self.assertEqual(closing.facts, known + facts, node)
            self.close(closing)
        self.assertTrue(closing, node)
        self.assertTrue(is_tree(question, closing.tree), node)

    def step(self, closing, node):
        calls = {"part": closing.part, "cases": closing.cases, "new": closing.new, "at": closing.use,
                 "apart": closing.apart, "same": closing.same, "outside": closing.outside, "ring": closing.ring}
        return calls[node[0]](*node[1:])

    def close(self, closing):
        """Closes the way by an or of none, the fact behind that of the length."""
        closing.cases(1)

    def no_node(self, question, *nodes):
        for node in nodes:
            closing = Closing(question)
            known = closing.facts
            with self.assertRaises(InvalidOperation, msg=repr(node)[:80]):
                self.step(closing, node)
            self.assertEqual((closing.facts, closing.open_nodes, len(closing)), (known, (0,), 0))

    def test_part(self):
        claims = (FALSE, ("and", (LESS, MORE, TRUE)), ("not", ("or", (LESS, SAME))), ("not", ("not", UPTO)))
        question = asked(*claims)
        self.adds(question, ("part", 2, 0), (LESS,))
        self.adds(question, ("part", 2, 2), (TRUE,))
        self.adds(question, ("part", 3, 0), (("not", LESS),))
        self.adds(question, ("part", 3, 1), (("not", SAME),))
        self.adds(question, ("part", 4, 0), (UPTO,))
        self.no_node(question, ("part", 2, 3), ("part", 2, -1), ("part", 3, 2), ("part", 4, 1), ("part", 4, -1),
                     ("part", 2, True), ("part", 2, None), ("part", 2, (0,)), ("part", True, 0), ("part", -3, 0),
                     ("part", 6, 0), ("part", 5, 0), ("part", 1, 0), ("part", 0, 0), ("part", None, 0),
                     ("part", "2", 0), ("part", 4, False), ("part", LONGER, 0))

    def test_part_of_other_forms(self):
        for claim in (("or", (LESS,)), ("not", ("and", (LESS,))), LESS, SAME, ("not", LESS), ("not", SAME), UPTO,
                      ("not", UPTO), TRUE, ("not", FALSE), FALSE):
            self.no_node(asked(FALSE, claim), ("part", 2, 0))

    def test_cases(self):
        question = asked(FALSE, ("or", (LESS, MORE, SAME)), ("not", ("and", (LESS, UPTO))), ("not", SAME),
                         ("not", SAME_X), ("not", TRUE), ("or", (LESS,)))
        self.adds(question, ("cases", 1))
        self.adds(question, ("cases", 2), (LESS,), (MORE,), (SAME,))
        self.adds(question, ("cases", 3), (("not", LESS),), (("not", UPTO),))
        self.adds(question, ("cases", 4), (LESS,), (MORE,))
        self.adds(question, ("cases", 5), (("val", "<", ("x", 0), ("", 0)),), (("val", "<", ("", 0), ("x", 0)),))
        self.adds(question, ("cases", 6))
        self.adds(question, ("cases", 7), (LESS,))
        self.no_node(question, ("cases", True), ("cases", -1), ("cases", 9), ("cases", None), ("cases", (1,)), ("cases", [1]))

    def test_cases_of_other_forms(self):
        for claim in (("and", (LESS,)), ("not", ("or", (LESS,))), LESS, SAME, ("not", LESS), UPTO, ("not", UPTO),
                      ("not", ("not", ("or", ()))), ("not", ("pos", "<=", ("i", 0), ("j", 0))), LESS_X, SAME_X, TRUE):
            self.no_node(asked(FALSE, claim), ("cases", 2))

    def test_new(self):
        guard = ("or", (("in", "k", ("i", 1), ("n", -1)), ("and", (("pos", "==", ("m", 0), ("k", 0)),))))
        body = ("and", (("val", "<", ("a", "m", 0, 2), ("a", "k", 0, 3)), ("val", "<", ("a", "j", 5, 2), ("x", 3))))
        question = asked(FALSE, ("not", UPTO), ("not", ("all", ("k", "m"), guard, body)))
        self.adds(question, ("new", 2, ("q",)),
                  (("and", (("pos", "<=", ("", 0), Q), ("pos", "<", Q, ("i", 0)))),
                   ("not", ("val", "<=", ("a", "q", 0, 0), ("x", 0)))))
        self.adds(question, ("new", 3, ("m", "k")),
                  (("or", (("and", (("pos", "<=", ("i", 1), ("m", 0)), ("pos", "<", ("m", 0), ("n", -1)))),
                           ("and", (("pos", "==", ("k", 0), ("m", 0)),)))),
                   ("not", ("and", (("val", "<", ("a", "k", 0, 2), ("a", "m", 0, 3)),
                                    ("val", "<", ("a", "j", 5, 2), ("x", 3)))))))
        self.adds(question, ("new", 2, ("k",)),
                  (("and", (("pos", "<=", ("", 0), ("k", 0)), ("pos", "<", ("k", 0), ("i", 0)))),
                   ("not", ("val", "<=", ("a", "k", 0, 0), ("x", 0)))))
        self.no_node(question, ("new", 2, ("i",)), ("new", 2, ("a",)), ("new", 2, ("n",)), ("new", 2, ("x",)),
                     ("new", 2, ()), ("new", 2, ("q", "r")), ("new", 2, "q"), ("new", 2, ["q"]), ("new", 2, ("Q",)),
                     ("new", 2, ("",)), ("new", 2, ("*1",)), ("new", 2, (1,)), ("new", 2, (["q"],)), ("new", 2, None),
                     ("new", 3, ("q", "q")), ("new", 3, ("q",)), ("new", 3, ("q", "i")), ("new", True, ("q",)),
                     ("new", -2, ("q",)), ("new", 9, ("q",)), ("new", 2, ("abcdefghi",)))

    def test_new_of_other_forms(self):
        for claim in (UPTO, ("not", ("not", UPTO)), ("not", ("and", (UPTO,))), ("and", (("not", UPTO),)), LESS,
                      ("not", LESS), TRUE):
            self.no_node(asked(FALSE, claim), ("new", 2, ("q",)))

    def test_made_names(self):
        question = asked(("not", UPTO), ("not", UPTO), ("or", (LESS, MORE)))
        closing = Closing(question)
        closing.cases(3)
        closing.new(1, ("q",))
        self.assertRaises(InvalidOperation, closing.new, 2, ("q",))
        closing.new(2, ("r",))
        self.assertRaises(InvalidOperation, closing.new, 2, ("q",))
        self.assertRaises(InvalidOperation, closing.new, 2, ("r",))
        closing.apart(("q", 1), ("r", -1))
        self.assertEqual(closing.facts[-1], ("pos", "<", ("q", 1), ("r", -1)))
        closing = Closing(asked(("not", UPTO), FALSE, ("or", (LESS, MORE))))
        closing.cases(3), closing.new(1, ("q",)), closing.cases(2)
        self.assertRaises(InvalidOperation, closing.apart, Q, ("i", 0))
        closing.new(1, ("q",)), closing.cases(2)
        self.assertTrue(is_tree(asked(("not", UPTO), FALSE, ("or", (LESS, MORE))), closing.tree))

    def test_at(self):
        guard = ("and", (("in", "m", ("i", 1), ("n", -1)), ("or", (("pos", "<=", ("k", 0), ("m", 0)),))))
        body = ("not", ("val", "<", ("a", "m", 0, 2), ("a", "k", 0, 3)))
        question = asked(FALSE, UPTO, ("all", ("k", "m"), guard, body), ("not", UPTO))
        self.adds(question, ("at", 2, (("j", 4),)),
                  (("or", (("not", ("and", (("pos", "<=", ("", 0), ("j", 4)), ("pos", "<", ("j", 4), ("i", 0))))),
                           ("val", "<=", ("a", "j", 4, 0), ("x", 0)))),))
        self.adds(question, ("at", 3, (("", 7), ("n", -2))),
                  (("or", (("not", ("and", (("and", (("pos", "<=", ("i", 1), ("n", -2)), ("pos", "<", ("n", -2), ("n", -1)))),
                                            ("or", (("pos", "<=", ("", 7), ("n", -2)),))))),
                           ("not", ("val", "<", ("a", "n", -2, 2), ("a", "", 7, 3))))),))
        self.no_node(question, ("at", 2, ()), ("at", 2, (("j", 0), ("j", 0))), ("at", 3, (("j", 0),)), ("at", 2, ("j", 0)),
                     ("at", 2, [("j", 0)]), ("at", 2, (["j", 0],)), ("at", 2, (("x", 0),)), ("at", 2, (("k", 0),)),
                     ("at", 2, (("q", 0),)), ("at", 2, (("*1", 0),)), ("at", 2, (("j", True),)), ("at", 2, (("j", LONGER),)),
                     ("at", 2, (("a", "j", 0, 0),)), ("at", 2, (("j", 0, 0),)), ("at", 4, (("j", 0),)), ("at", 1, (("j", 0),)),
                     ("at", True, (("j", 0),)), ("at", 2, None), ("at", -3, (("j", 0),)), ("at", 9, (("j", 0),)))
        self.adds(question, ("at", 2, (("n", SIXTY),)), (closing_fact(question, 2, (("n", SIXTY),)),))

    def test_at_made_names(self):
        question = asked(("not", UPTO), UPTO, ("all", ("k", "m"), ("pos", "<=", ("k", 0), ("m", 0)), TRUE))
        closing = Closing(question)
        self.assertRaises(InvalidOperation, closing.use, 2, (("k", 0),))
        closing.new(1, ("k",))
        closing.use(2, (("k", -3),))
        self.assertEqual(closing.facts[-1][1][1], ("val", "<=", ("a", "k", -3, 0), ("x", 0)))
        closing.use(3, (("j", 1), ("k", 2)))
        self.assertEqual(closing.facts[-1][1][0], ("not", ("pos", "<=", ("j", 1), ("k", 2))))
        closing.use(3, (("k", 2), ("k", 1)))
        self.assertEqual(closing.facts[-1][1][0], ("not", ("pos", "<=", ("k", 2), ("k", 1))))
        for term in (("k", True), ("k", LONGER), ("k",), ["k", 0], ("m", 0), ("x", 0)):
            self.assertRaises(InvalidOperation, closing.use, 2, (term,))

    def test_at_deeper_than_claims(self):
        guard = ("in", "k", ("", 0), ("i", 0))
        for _ in range(10):
            guard = ("and", (guard,))
        question = asked(FALSE, ("all", ("k",), guard, TRUE))
        closing = Closing(question)
        closing.use(2, (("i", 0),))
        self.assertEqual(closing.facts[-1][0], "or")
        self.assertEqual(closing.cases(1), 1)
        self.assertTrue(is_tree(question, closing.tree))

    def test_apart(self):
        question = asked(FALSE)
        one, other = ("i", 2), ("n", -1)
        self.adds(question, ("apart", one, other), (("pos", "<", one, other),), (("pos", "<", other, one),),
                  (("pos", "==", one, other),))
        self.adds(question, ("apart", ("", 0), ("", 0)), (("pos", "<", ("", 0), ("", 0)),),
                  (("pos", "<", ("", 0), ("", 0)),), (("pos", "==", ("", 0), ("", 0)),))
        for term in (("x", 0), ("q", 0), ("k", 0), ["i", 0], ("i", True), ("i", LONGER), ("a", "i", 0, 0), None, "i", ("i",)):
            self.no_node(question, ("apart", term, one), ("apart", one, term))

    def test_same(self):
        question = asked(FALSE, ("pos", "==", ("i", 1), ("", 3)), SAME_X, LESS, ("not", SAME),
                         ("pos", "<=", ("i", 0), ("j", 0)), frame=WIDE)
        first = 2 + 1
        self.adds_wide(question, ("same", "a", first), ("val", "==", ("a", "i", 1, 0), ("a", "", 3, 0)))
        self.adds_wide(question, ("same", "c", first), ("val", "==", ("c", "i", 1, 0), ("c", "", 3, 0)))
        self.no_node(question, ("same", "d", first), ("same", "n", first), ("same", "i", first), ("same", "x", first),
                     ("same", ["a"], first), ("same", None, first), ("same", ("a",), first), ("same", "a", first + 1),
                     ("same", "a", first + 2), ("same", "a", first + 3), ("same", "a", first + 4), ("same", "a", 99),
                     ("same", "a", -1), ("same", "a", True), ("same", "a", None), ("same", "", first))

    def adds_wide(self, question, node, fact):
        closing = Closing(question)
        self.assertEqual(self.step(closing, node), 0)
        self.assertEqual(closing.facts, question.facts + (fact,))
        closing.cases(2)
        self.assertTrue(is_tree(question, closing.tree))

    def test_outside(self):
        below, above = ("pos", "<", ("i", 4), ("", 0)), ("pos", "<", ("m", -1), ("j", 2))
        both = ("pos", "<", ("m", -1), ("", 0))
        others = (("pos", "<", ("n", 0), ("j", 2)), ("pos", "<=", ("i", 4), ("", 0)), ("pos", "==", ("i", 4), ("", 0)),
                  ("not", below), ("pos", "<", ("i", 4), ("", -1)), ("pos", "<", ("", -1), ("j", 0)),
                  ("pos", "<", ("j", -1), ("i", 0)), ("val", "<", ("x", 4), ("", 0)), ("pos", "<", ("i", 4), ("", 1)))
        question = asked(FALSE, below, above, both, *others, frame=WIDE)
        for array in "abc":
            self.adds_wide(question, ("outside", array, 3), ("val", "==", (array, "i", 4, 0), ("", 0)))
            self.adds_wide(question, ("outside", array, 5), ("val", "==", (array, "m", -1, 0), ("", 0)))
        self.adds_wide(question, ("outside", "c", 4), ("val", "==", ("c", "j", 2, 0), ("", 0)))
        self.no_node(question, ("outside", "a", 4), ("outside", "b", 4), ("outside", "d", 3), ("outside", "m", 3),
                     ("outside", "i", 3), ("outside", ["a"], 3), ("outside", None, 3), ("outside", "c", True),
                     ("outside", "c", -1), ("outside", "c", 99), ("outside", "c", 2))
        for number in range(6, 6 + len(others)):
            for array in "abc":
                self.no_node(question, ("outside", array, number))

    def test_ring(self):
        given = (FALSE, LESS, ("pos", "<=", ("j", 0), ("i", 0)), SAME, ("not", ("pos", "<", ("i", 0), ("j", 0))),
                 ("not", ("pos", "<=", ("j", 0), ("i", 0))), ("not", SAME), LESS_X, ("val", "<=", ("", 0), ("x", 0)),
                 ("pos", "<", ("i", 0), ("i", 0)), ("pos", "<", ("", 0), ("", 0)), ("pos", "<=", ("i", 0), ("j", 0)), UPTO)
        question = asked(*given)
        for steps in (((2, 0), (3, 0)), ((3, 0), (2, 0)), ((2, 0), (4, 1)), ((4, 1), (2, 0)), ((2, 0), (5, 0)),
                      ((6, 0), (3, 0)), ((6, 0), (5, 0)), ((6, 0), (4, 1)), ((10, 0),), ((11, 0),), ((8, 0), (9, 0)),
                      ((2, 0), (3, 0), (2, 0), (3, 0)), ((10, 0), (10, 0)), ((10, 0), (2, 0), (3, 0)), ((2, 0), (3, 0), (10, 0))):
            self.adds(question, ("ring", steps))
        self.no_node(question, *[("ring", steps) for steps in (
            (), ((2, 0),), ((3, 0),), ((2, 0), (2, 0)), ((2, 0), (4, 0)), ((4, 0), (4, 1)), ((3, 0), (12, 0)), ((5, 0), (12, 0)),
            ((2, 1), (3, 0)), ((2, 0), (4, 2)), ((2, 0), (4, -1)), ((2, 0), (3, True)), ((2, False), (3, 0)), ((7, 0),),
            ((7, 0), (3, 0)), ((1, 0),), ((13, 0),), ((0, 0),), [(2, 0), (3, 0)], ([2, 0], [3, 0]), ((2, 0, 0), (3, 0, 0)),
            (2, 3), (2, 0), None, ((2, None), (3, None)), ((-12, 0), (3, 0)), ((99, 0), (3, 0)), ((2, 0), 3),
            ((10, 0), (8, 0), (9, 0)), ((11, 0), (8, 0), (9, 0)), ((8, 0), (9, 0), (11, 0)), ((8, 0), (3, 0)), ((10, 0), (11, 0)))])

    def test_ring_of_positions_and_values(self):
        question = asked(("pos", "<", ("", 1), ("", 0)), ("val", "<=", ("", 0), ("", 0)), ("pos", "<=", ("", 0), ("", 0)),
                         ("val", "<", ("", 0), ("", 0)))
        for steps, fits in ((((1, 0),), True), (((1, 0), (3, 0)), True), (((4, 0),), True), (((4, 0), (2, 0)), True),
                            (((1, 0), (2, 0)), False), (((4, 0), (3, 0)), False), (((1, 0), (4, 0)), False), (((2, 0),), False),
                            (((3, 0),), False)):
            self.assertIs(is_tree(question, (("ring", steps),)), fits)

    def test_ring_of_cells(self):
        question = asked(("val", "<", ("a", "i", 1, 3), ("a", "j", 0, 3)), ("val", "<=", ("a", "j", 0, 0), ("a", "i", 1, 0)),
                         ("val", "<=", ("a", "j", 0, 0), ("a", "i", 2, 0)))
        self.assertTrue(is_tree(question, (("ring", ((1, 0), (2, 0))),)))
        self.assertFalse(is_tree(question, (("ring", ((1, 0), (3, 0))),)))


def closing_fact(question, number, terms):
    """The fact that `use` adds."""
    closing = Closing(question)
    closing.use(number, terms)
    return closing.facts[-1]


class Trees(unittest.TestCase):
    def setUp(self):
        self.question = asked(("or", (LESS, MORE)), ("pos", "<", ("j", 0), ("i", 0)), ("pos", "<", ("i", 0), ("j", 0)))
        self.end = ("ring", ((2, 0), (3, 0)))
        self.tree = (("cases", 1, (1, 2)), self.end, self.end)

    def check(self, expected, *trees):
        for tree in trees:
            self.assertIs(is_tree(self.question, tree), expected, repr(tree)[:200])

    def test_one_node(self):
        self.check(True, (self.end,), self.tree, (("cases", 1, (2, 1)), self.end, self.end))
        self.check(False, (), self.end, [self.end], (list(self.end),), ((),), (("ring",),), (("part", 0, 0),))

    def test_nodes_left_out(self):
        self.check(False, self.tree[:2], (("cases", 1, (1, 2)), self.end), (("cases", 1, (1,)), self.end),
                   (("cases", 1, ()),), (("cases", 1, (1, 3)), self.end, self.end, self.end))

    def test_nodes_too_many(self):
        self.check(False, self.tree + (self.end,), (self.end, self.end), (("cases", 1, (1, 2, 3)),) + (self.end,) * 3)

    def test_nodes_named_by_two(self):
        self.check(False, (("cases", 1, (1, 1)), self.end), (("cases", 1, (1, 1)), self.end, self.end),
                   (("cases", 1, (1, 2)), ("apart", ("i", 0), ("j", 0), (2, 3, 4))) + (self.end,) * 3,
                   (("cases", 1, (1, 2)), ("cases", 1, (2, 3)), self.end, self.end))

    def test_nodes_named_by_greater_ones(self):
        self.check(False, (("cases", 1, (0, 1)), self.end), (("cases", 1, (1, 2)), ("cases", 1, (0, 3)), self.end, self.end),
                   (("cases", 1, (1, 3)), self.end, self.end, ("cases", 1, (2, 4)), self.end),
                   (("apart", ("i", 0), ("j", 0), (0, 1, 2)), self.end, self.end))
        question, ring = asked(("and", (MORE,)), LESS), ("ring", ((4, 0), (2, 0)))
        self.assertIs(is_tree(question, (("part", 1, 0, 1), ("part", 1, 0, 2), ring)), True)
        self.assertIs(is_tree(question, (("part", 1, 0, 2), ("part", 1, 0, 1), ring)), False)
        self.check(False, (("cases", 1, (1, 2)), self.end, self.end, ("part", 2, 0, 3)), (("cases", 1, (1, 3)), self.end, (
            "cases", 1, (2, 4)), self.end, self.end))
        self.check(True, (("cases", 1, (4, 1)), ("cases", 1, (3, 2)), self.end, self.end, self.end))

    def test_wrong_numbers(self):
        for wrong in (-1, True, None, "1", 3, LONGER, (1,), [1], 1.0):
            self.check(False, (("cases", 1, (wrong, 2)), self.end, self.end), (("cases", 1, (2, wrong)), self.end, self.end))
        self.check(False, (("cases", 1, [1, 2]), self.end, self.end), (("cases", 1, 1), self.end), (("cases", 1, None),))

    def test_wrong_words(self):
        for word in ("use", "", "Cases", "or", "open", None, 1, ["cases"], ("cases",), FRAME):
            self.check(False, ((word, 1, (1, 2)), self.end, self.end))
        self.check(False, (("cases", 1, (1, 2), ()), self.end, self.end), (("cases", 1), self.end), (self.end + ((),),),
                   (("ring", ((2, 0), (3, 0)), ()),))

    def test_wrong_lengths_of_nodes(self):
        question = asked(FALSE, ("not", UPTO), UPTO, ("and", (LESS,)), SAME, ("pos", "<", ("i", 0), ("", 0)))
        end = ("cases", 1, ())
        for node in (("part", 4, 0, 1), ("new", 2, ("q",), 1), ("at", 3, (("i", 0),), 1), ("same", "a", 5, 1),
                     ("outside", "a", 6, 1)):
            self.assertIs(is_tree(question, (node, end)), True)
            for wrong in (node[:-1], node + (1,), node[:-1] + ((1,),), node[:-1] + (True,), node[:-1] + (0,),
                          node[:-1] + (2,), node[:-1] + (None,), list(node)):
                self.assertIs(is_tree(question, (wrong, end)), False, wrong)
            self.assertIs(is_tree(question, (node,)), False)
            self.assertIs(is_tree(question, (node, end, end)), False)

    def test_odd_values(self):
        for value in odd_values():
            self.check(False, value, (value,), (value, self.end), (("cases", value, (1, 2)), self.end, self.end),
                       (("ring", value),), (("ring", (value, value)),), (("part", 1, value, 1), self.end),
                       (("new", 1, value, 1), self.end), (("at", 1, value, 1), self.end),
                       (("apart", value, ("i", 0), (1, 2, 3)),) + (self.end,) * 3,
                       (("same", value, 1, 1), self.end), (("outside", value, 1, 1), self.end))

    def test_numbers_of_facts_hang_on_the_way(self):
        question = asked(("or", (LESS, ("and", (MORE, LESS)))), MORE)
        tree = (("cases", 1, (1, 2)), ("ring", ((4, 0), (2, 0))), ("part", 4, 1, 3), ("ring", ((5, 0), (2, 0))))
        self.assertTrue(is_tree(question, tree))
        self.assertFalse(is_tree(question, tree[:3] + (("ring", ((4, 0), (2, 0))),)))
        self.assertFalse(is_tree(question, (tree[0], ("ring", ((5, 0), (2, 0))),) + tree[2:]))
        self.assertFalse(is_tree(question, (("cases", 1, (2, 1)),) + tree[1:]))

    def test_changed_trees(self):
        """Trees that are near to a tree: judged as by the words of the document, way by way."""
        rng = random.Random(61)
        good = 0
        for _ in range(6000):
            nodes = [list(node) for node in NEXT_TREE]
            for _ in range(rng.randrange(1, 3)):
                self.change(rng, nodes)
            tree = tuple([tuple(node) for node in nodes])
            expected = is_naive_tree(NEXT, tree)
            good += expected
            self.assertIs(is_tree(NEXT, tree), expected, tree)
            if not expected:
                self.assertRaises(InvalidOperation, facts_at, NEXT, tree, 0)
            self.assertFalse(is_tree(BROKEN, tree))
        self.assertGreater(good, 20)

    def change(self, rng, nodes):
        node = rng.choice(nodes)
        kind = rng.randrange(7)
        if kind == 0:
            place = rng.randrange(1, len(node))
            if type(node[place]) is int:
                node[place] += rng.choice([-1, 1])
            elif node[0] == "ring":
                steps = list(node[1])
                at = rng.randrange(len(steps))
                steps[at] = (steps[at][0] + rng.choice([-1, 0, 1]), steps[at][1] + rng.choice([0, 1]))
                node[1] = tuple(steps)
        elif kind == 1:
            one, other = rng.randrange(len(nodes)), rng.randrange(len(nodes))
            nodes[one], nodes[other] = nodes[other], nodes[one]
        elif kind == 2:
            del nodes[rng.randrange(len(nodes))]
        elif kind == 3:
            nodes.append(list(node))
        elif kind == 4 and type(node[-1]) is tuple:
            node[-1] = node[-1][1:] + node[-1][:1]
        elif kind == 5 and node[0] == "ring":
            node[1] = node[1] + node[1]
        elif kind == 6:
            for other in nodes:
                for place in range(1, len(other)):
                    other[place] = self.with_name(other[place], rng.choice(["k", "r", "i"]))

    def with_name(self, value, name):
        if value == "q":
            return name
        return tuple([self.with_name(part, name) for part in value]) if type(value) is tuple else value

    def test_deep_and_wide_trees(self):
        many = 4000
        nodes = [("part", 1, 0, k + 1) for k in range(many)]
        question = asked(("and", (LESS,)), MORE)
        tree = tuple(nodes) + (("ring", ((4, 0), (2, 0))),)
        self.assertTrue(is_tree(question, tree))
        self.assertEqual(len(facts_at(question, tree, many)), len(question.facts) + many)
        wide = asked(("or", (LESS,) * 3000), MORE)
        tree = (("cases", 1, tuple(range(1, 3001))),) + (("ring", ((4, 0), (2, 0))),) * 3000
        self.assertTrue(is_tree(wide, tuple([tree[0]] + [("ring", ((4, 0), (2, 0)))] * 3000)))
        self.assertFalse(is_tree(wide, tree[:-1]))

    def test_errors(self):
        for value in odd_values():
            if not isinstance(value, Question):
                self.assertRaises(InvalidQuestion, is_tree, value, None)
                self.assertRaises(InvalidQuestion, facts_at, value, None, None)
                self.assertRaises(InvalidQuestion, Closing, value)
            self.assertRaises(InvalidOperation, facts_at, self.question, value, None)


class FactsAt(unittest.TestCase):
    def test_each_node(self):
        known = NEXT.facts
        guard = ("and", (("pos", "<=", ("", 0), Q), ("pos", "<", Q, ("i", 1))))
        cell = ("a", "q", 0, 0)
        no_body = ("not", ("val", "<=", cell, ("x", 0)))
        inner = ("and", (("pos", "<=", ("", 0), Q), ("pos", "<", Q, ("i", 0))))
        way = known + (guard, no_body)
        parts = way + guard[1]
        less, more, same = [parts + (("pos",) + case,) for case in (("<", Q, ("i", 0)), ("<", ("i", 0), Q), ("==", Q, ("i", 0)))]
        used = less + (("or", (("not", inner), no_body[1])),)
        expected = [known, way, way + guard[1][:1], parts, less, more, same, used, used + (("not", inner),), used + (no_body[1],),
                    used + (("not", inner), ("not", inner[1][0])), used + (("not", inner), ("not", inner[1][1])),
                    same + (("val", "==", cell, ("a", "i", 0, 0)),)]
        self.assertEqual([facts_at(NEXT, NEXT_TREE, node) for node in range(13)], expected)

    def test_errors(self):
        for node in (-1, 13, True, False, None, "0", LONGER, (0,), [], FRAME, 10 ** 99):
            error = raised(facts_at, NEXT, NEXT_TREE, node)
            self.assertIsInstance(error, InvalidNumber)
            self.assertEqual(error.number, node)
        self.assertRaises(InvalidOperation, facts_at, NEXT, NEXT_TREE[:-1], None)
        self.assertRaises(InvalidOperation, facts_at, BROKEN, NEXT_TREE, 0)
        self.assertRaises(InvalidQuestion, facts_at, None, NEXT_TREE, 0)


class Steps(unittest.TestCase):
    def test_at_first(self):
        closing = Closing(NEXT)
        self.assertEqual((closing.facts, closing.open_nodes, len(closing), bool(closing), str(closing)),
                         (NEXT.facts, (0,), 0, False, "closing with 0 nodes, 1 open"))
        self.assertRaises(InvalidOperation, lambda: closing.tree)

    def test_order_of_the_current_node(self):
        orders = [(0,), (1,), (2,), (3,), (4, 5, 6), (5, 6, 7), (5, 6, 8, 9), (5, 6, 9, 10, 11), (5, 6, 9, 11), (5, 6, 9),
                  (5, 6), (6,), (12,), ()]
        for many in range(14):
            closing, numbers = next_closing(many)
            self.assertEqual(closing.open_nodes, orders[many])
            self.assertEqual((len(closing), bool(closing)), (many, many == 13))
            self.assertEqual(str(closing), "closing with %d nodes, %d open" % (many, len(orders[many])))
            if many < 13:
                current = [0, 1, 2, 3, 4, 7, 8, 10, 11, 9, 5, 6, 12][many]
                self.assertEqual(closing.facts, facts_at(NEXT, NEXT_TREE, current))
                self.assertRaises(InvalidOperation, lambda: closing.tree)

    def test_closed(self):
        closing, _ = next_closing()
        self.assertEqual(closing.tree, NEXT_TREE)
        self.assertRaises(InvalidOperation, lambda: closing.facts)
        for call, told in ((closing.part, (0, 0)), (closing.cases, (0,)), (closing.new, (3, ("q",))),
                           (closing.use, (1, (("i", 0),))), (closing.apart, (("i", 0), ("j", 0))), (closing.same, ("a", 0)),
                           (closing.outside, ("a", 0)), (closing.ring, (((0, 0),),)), (closing.part, (None, None))):
            self.assertRaises(InvalidOperation, call, *told)
        self.assertEqual((len(closing), closing.tree), (13, NEXT_TREE))

    def test_refusals_have_no_effect(self):
        for many in range(13):
            closing, _ = next_closing(many)
            before = (closing.facts, closing.open_nodes, len(closing), str(closing))
            for value in odd_values():
                for call, told in ((closing.part, (value, 0)), (closing.part, (4, value)), (closing.cases, (value,)),
                                   (closing.new, (3, value)), (closing.new, (value, ("r",))), (closing.use, (1, value)),
                                   (closing.use, (1, (value,))), (closing.use, (value, (("i", 0),))), (closing.apart, (value, ("i", 0))),
                                   (closing.apart, (("i", 0), value)), (closing.same, (value, 8)), (closing.same, ("a", value)),
                                   (closing.outside, (value, 8)), (closing.outside, ("a", value)), (closing.ring, (value,)),
                                   (closing.ring, ((value,),)), (closing.ring, (((value, 0), (value, 0)),))):
                    if raised(call, *told) is None:
                        closing.undo()
            self.assertEqual((closing.facts, closing.open_nodes, len(closing), str(closing)), before)
            self.assertTrue(closing == next_closing(many)[0])

    def test_undo(self):
        for many in range(14):
            for back in range(many + 1):
                closing, _ = next_closing(many)
                expected, _ = next_closing(many - back)
                self.assertEqual(closing.undo(many=back), len(expected.open_nodes))
                self.assertTrue(closing == expected)
                self.assertEqual((closing.open_nodes, len(closing)), (expected.open_nodes, len(expected)))
                if not expected:
                    self.assertEqual(closing.facts, expected.facts)
        closing, _ = next_closing(5)
        self.assertEqual(closing.undo(), 3)
        self.assertEqual(len(closing), 4)

    def test_going_on_after_undo(self):
        closing, _ = next_closing(11)
        closing.undo(many=6)
        self.assertEqual(closing.cases(9), 7)
        self.assertEqual([closing.cases(10), closing.ring(((11, 0), (6, 0))), closing.ring(((11, 0), (8, 0))),
                          closing.ring(((10, 0), (5, 0))), closing.ring(((7, 0), (8, 0))), closing.same("a", 8),
                          closing.ring(((5, 0), (9, 0), (2, 0)))], [8, 10, 11, 9, 5, 6, 12])
        self.assertEqual(closing.tree, NEXT_TREE)
        closing.undo(many=13)
        self.assertEqual(closing.facts, NEXT.facts)
        self.assertEqual(closing.apart(("i", 0), ("j", 0)), 0)
        self.assertEqual(closing.new(3, ("q",)), 1)
        self.assertEqual(closing.open_nodes, (2, 3, 4))

    def test_names_are_free_again_after_undo(self):
        closing = Closing(asked(("not", UPTO)))
        closing.new(1, ("q",))
        closing.undo()
        self.assertRaises(InvalidOperation, closing.apart, Q, Q)
        self.assertEqual(closing.new(1, ("q",)), 0)
        closing.apart(Q, Q)

    def test_several_names_are_free_again(self):
        for back in (1, 2, 3):
            closing = Closing(asked(("not", ("all", ("k", "m"), TRUE, TRUE)), ("not", UPTO)))
            closing.new(1, ("p", "q")), closing.new(2, ("r",)), closing.apart(Q, ("r", 0))
            closing.undo(many=back)
            for name, known in (("p", back < 3), ("q", back < 3), ("r", back < 2)):
                self.assertIs(raised(closing.apart, (name, 0), ("i", 0)) is None, known)
                if known:
                    closing.undo()
                    self.assertRaises(InvalidOperation, closing.new, 2, (name,))

    def test_undo_errors(self):
        closing, _ = next_closing(5)
        for many in (-1, True, False, None, "1", LONGER, (1,), [], FRAME, 10 ** 99):
            error = raised(closing.undo, many=many)
            self.assertIsInstance(error, InvalidNumber)
            self.assertEqual(error.number, many)
        for many in (6, 100, SIXTY):
            error = raised(closing.undo, many=many)
            self.assertIsInstance(error, NothingToUndo)
            self.assertEqual(error.asked, many)
        self.assertEqual(len(closing), 5)
        self.assertEqual(closing.undo(many=0), 3)
        self.assertEqual(closing.undo(many=5), 1)
        self.assertEqual(raised(closing.undo).asked, 1)
        self.assertRaises(TypeError, closing.undo, 1)

    def test_twin(self):
        for many in range(14):
            closing, _ = next_closing(many)
            twin = closing.twin()
            self.assertIs(twin == closing, True)
            self.assertEqual((twin.open_nodes, len(twin), str(twin)), (closing.open_nodes, len(closing), str(closing)))
            if many > 0:
                twin.undo()
                self.assertEqual((len(closing), len(twin)), (many, many - 1))
                self.assertIs(twin == closing, False)
                self.assertTrue(closing == next_closing(many)[0])
                self.assertIs(twin == next_closing(many - 1)[0], True)
                closing.undo(many=many)
                self.assertIs(twin == next_closing(many - 1)[0], True)
                self.assertEqual(twin.facts, next_closing(many - 1)[0].facts)
        closing, _ = next_closing(4)
        twin = closing.twin()
        twin.use(1, (Q,)), closing.use(1, (("i", 0),))
        self.assertIs(twin == closing, False)
        twin.cases(9), closing.undo()
        self.assertEqual((len(twin), len(closing), len(closing.facts), len(twin.facts)), (6, 4, 9, 11))

    def test_equality(self):
        one, other = Closing(NEXT), Closing(Question(FRAME, NEXT.claims, NEXT.goal))
        self.assertIs(one == other, True)
        self.assertIs(one != other, False)
        self.assertIs(one == Closing(BROKEN), False)
        one.new(3, ("q",))
        self.assertIs(one == other, False)
        other.new(3, ("r",))
        self.assertIs(one == other, False)
        other.undo()
        other.new(3, ("q",))
        self.assertIs(one == other, True)
        one.part(4, 0), other.part(4, 1)
        self.assertIs(one != other, True)
        for value in odd_values() + [NEXT_TREE, str(one)]:
            self.assertIs(one == value, False)
            self.assertIs(one != value, True)

    def test_not_iterated_and_does_not_change(self):
        closing = Closing(NEXT)
        self.assertRaises(TypeError, iter, closing)
        for attribute in ("facts", "open_nodes", "tree"):
            with self.assertRaises(AttributeError):
                setattr(closing, attribute, ())

    def test_question_stays(self):
        question = Question(FRAME, NEXT.claims, NEXT.goal)
        Closing(question).new(3, ("q",))
        self.assertTrue(question == NEXT)
        self.assertEqual(len(question.facts), 4)

    def test_frames_without_names(self):
        question = Question(Frame((), (), ()), (("not", ("all", ("k",), TRUE, TRUE)),), FALSE)
        closing = Closing(question)
        self.assertEqual([closing.new(0, ("abc",)), closing.cases(3)], [0, 1])
        self.assertTrue(is_tree(question, closing.tree))


if __name__ == "__main__":
    unittest.main()

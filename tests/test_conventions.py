"""[0.1] to [0.6], and that the interface stands where the document lists it."""

import copy
import importlib
import inspect
import unittest

from forkcells.base.frames import Frame, is_name
from forkcells.code.functions import Function
from forkcells.code.programs import Program
from forkcells.code.rights import is_within
from forkcells.decide.follows import Asker, breaking, follows, is_paper, paper
from forkcells.desk.desk import Desk
from forkcells.errors import InvalidFrame, InvalidNumber, InvalidTerm, TooMany
from forkcells.logic.claims import carried, is_claim, renamed_claim, replaced, used_at
from forkcells.order.races import first_race, is_race
from forkcells.order.schedules import ends, is_parting, is_schedule, parting, schedules
from forkcells.order.traces import exchanged, forms, is_exchange_way, sorted_form
from forkcells.pieces.kept import is_kept, is_kept_paper, kept_paper, kinds_broken
from forkcells.pieces.pieces import pieces
from forkcells.runs.outcomes import first_break, outcome
from forkcells.runs.runs import Run
from forkcells.solve.differences import fitting, is_fitting, is_ring, ring, tightest
from forkcells.solve.questions import Question
from forkcells.solve.trees import Closing, facts_at, is_tree
from forkcells.text.shell import Shell
from forkcells.text.texts import read_situation, write_functions
from forkcells.use.contracts import is_standing_paper, standing_paper
from forkcells.use.rights import fitting_lows, is_fitting_right
from forkcells.world.situations import Situation
from code_samples import BOTH, COPY, FILL, HALVES, NOUGHTS, ONECELL, ONES, PAIR, SET, TWO
from samples import (BROKEN, CHAIN, FRAME, LONGER, Maker, NEXT, SHOWN, SIXTY, UPTO, WIDE, odd_values,
                     raised)

FUNCTIONS = {
    "forkcells.base.frames": {"is_name": "value"},
    "forkcells.logic.claims": {
        "is_claim": "frame, value", "names_of": "frame, claim", "replaced": "frame, claim, terms",
        "carried": "frame, claim, target, arrays, terms", "used_at": "frame, claim, terms",
        "inside_claim": "frame, array, term", "all_between": "frame, low, high, op, one, other",
        "renamed_claim": "frame, claim, names"},
    "forkcells.solve.differences": {
        "fitting": "differences", "is_fitting": "differences, value", "ring": "differences",
        "is_ring": "differences, value", "tightest": "differences, one, other", "differences_of": "frame, claim"},
    "forkcells.solve.trees": {"is_tree": "question, value", "facts_at": "question, tree, node"},
    "forkcells.decide.follows": {
        "follows": "question", "breaking": "question", "paper": "question", "is_paper": "question, value"},
    "forkcells.code.rights": {
        "is_within": "right, other", "do_meet": "right, other", "within_claim": "one, other", "apart_claim": "one, other",
        "usable_claim": "frame, array, right, term", "in_right": "own, right", "outside_right": "own, right"},
    "forkcells.runs.outcomes": {
        "outcome": "program, called, situation, *, most=100, viewing=False, careless=False",
        "first_break": "program, called, situation, *, most=100"},
    "forkcells.order.schedules": {
        "is_schedule": "program, called, situation, value, *, whole=False",
        "run_along": "program, called, situation, schedule", "schedules": "program, called, situation",
        "moments": "program, called, situation", "ends": "program, called, situation",
        "parting": "program, called, situation", "is_parting": "program, called, situation, value"},
    "forkcells.order.races": {
        "races_at": "run", "clashes": "program, called, situation, schedule",
        "late_clashes": "program, called, situation, schedule", "is_free": "program, called, situation",
        "first_race": "program, called, situation", "is_race": "program, called, situation, value"},
    "forkcells.order.traces": {
        "exchanges": "program, called, situation, schedule", "exchanged": "program, called, situation, schedule, index",
        "sorted_form": "program, called, situation, schedule", "are_alike": "program, called, situation, one, other",
        "exchange_way": "program, called, situation, one, other",
        "is_exchange_way": "program, called, situation, one, other, value", "forms": "program, called, situation"},
    "forkcells.pieces.pieces": {"pieces": "program, called"},
    "forkcells.pieces.kept": {
        "is_kept": "program, called", "is_program_kept": "program", "broken_questions": "program, called",
        "kinds_broken": "program", "kept_paper": "program", "is_kept_paper": "program, value",
        "is_orderless": "program, called"},
    "forkcells.use.contracts": {
        "headings_alike": "one, other", "contract_questions": "one, other", "stands_in": "one, other",
        "standing_paper": "one, other", "is_standing_paper": "one, other, value"},
    "forkcells.use.rights": {
        "with_rights": "function, rights", "fitting_lows": "program, called, array, candidates",
        "fitting_highs": "program, called, array, candidates", "is_fitting_right": "program, called, array, value",
        "narrowed": "program, called, candidates"},
    "forkcells.text.texts": {
        "write_claim": "claim", "write_rows": "rows", "write_function": "function", "write_functions": "functions",
        "read_claim": "text", "read_rows": "text", "read_function": "text", "read_functions": "text",
        "write_situation": "situation", "read_situation": "frame, text"},
}

CONSTANTS = {
    "forkcells.code.functions": {
        "MAX_ROWS": 24, "MAX_LOOPS": 4, "MAX_INSIDE": 4, "MAX_CLAIMS": 4, "MAX_BRANCHES": 3},
    "forkcells.code.programs": {"MAX_FUNCTIONS": 6},
    "forkcells.order.schedules": {"MAX_STEPS": 12, "MAX_MOMENTS": 2000},
    "forkcells.order.traces": {"MAX_SORTED": 64},
    "forkcells.pieces.pieces": {"MAX_PIECES": 64, "MAX_WRITES": 4, "MAX_FORKS": 2},
    "forkcells.desk.desk": {"MAX_FUNCTIONS": 6, "MAX_CLAIMS": 8},
}

CLASSES = {
    ("forkcells.base.frames", "Frame"): {
        "__init__": "arrays, positions, values", "length_of": "array", "kind_of": "word", "is_fresh": "value",
        "is_position_term": "value, *, own=()", "is_value_term": "value, *, own=()", "shifted": "term, shift",
        "with_names": "*, arrays=(), positions=(), values=()", "renamed": "names", "__contains__": "value",
        "__len__": "", "__eq__": "other", "__str__": ""},
    ("forkcells.world.situations", "Situation"): {
        "__init__": "frame, rows, positions, values", "cell": "array, position", "position_at": "term",
        "value_at": "term", "holds": "claim", "failure": "claim", "with_cell": "array, position, content",
        "with_number": "word, content", "for_frame": "frame", "__len__": "", "__eq__": "other", "__str__": ""},
    ("forkcells.solve.questions", "Question"): {
        "__init__": "frame, given, wanted", "is_broken_by": "value", "new_numbers": "situation", "laid": "situation",
        "small": "situation", "with_given": "claim", "without_given": "place", "wanting": "claim", "__len__": "",
        "__eq__": "other", "__str__": ""},
    ("forkcells.solve.trees", "Closing"): {
        "__init__": "question", "part": "fact, place", "cases": "fact", "new": "fact, names", "use": "fact, terms",
        "apart": "one, other", "same": "array, fact", "outside": "array, fact", "ring": "steps", "undo": "*, many=1",
        "twin": "", "__bool__": "", "__len__": "", "__eq__": "other", "__str__": ""},
    ("forkcells.decide.follows", "Asker"): {
        "__init__": "frame", "tell": "claim", "ask": "claim", "why": "claim", "undo": "*, many=1", "twin": "",
        "__len__": "", "__contains__": "value", "__eq__": "other", "__str__": ""},
    ("forkcells.code.functions", "Function"): {
        "__init__": "called, *, arrays=(), positions=(), values=(), places=(), numbers=(), rows=(), notes=(), before=(), "
                    "after=()",
        "row": "number", "loop_of": "number", "way_of": "array", "right_of": "array", "with_rows": "rows, notes",
        "with_notes": "loop, claims", "with_contract": "before, after", "called_as": "called", "relabeled": "names",
        "__len__": "", "__iter__": "", "__eq__": "other", "__str__": ""},
    ("forkcells.code.programs", "Program"): {
        "__init__": "functions", "callers": "called", "needed": "called", "with_function": "function",
        "without": "called", "renamed": "names", "right_of_argument": "called, row, branch, index",
        "__getitem__": "called", "__contains__": "value", "__len__": "", "__iter__": "", "__eq__": "other", "__str__": ""},
    ("forkcells.runs.runs", "Run"): {
        "__init__": "program, called, situation, *, viewing=False, careless=False", "is_over": "", "is_done": "",
        "go": "path", "go_on": "*, most=100", "row_at": "path", "sight": "path", "right_at": "path, array",
        "touches": "path", "undo": "*, many=1", "twin": "", "__len__": "", "__eq__": "other", "__str__": ""},
    ("forkcells.pieces.pieces", "Piece"): {"questions": "", "is_right": "", "__eq__": "other", "__str__": ""},
    ("forkcells.desk.desk", "Desk"): {
        "__init__": "", "put": "functions", "take": "name", "revise": "name, change", "demand": "claim", "waive": "claim",
        "undo": "*, many=1", "redo": "*, many=1", "during": "call", "twin": "", "whole": "", "callers": "called",
        "__getitem__": "name", "__contains__": "value", "__len__": "", "__iter__": "", "__eq__": "other", "__str__": ""},
    ("forkcells.text.shell", "Shell"): {
        "__init__": "", "__call__": "command", "answer": "command", "desk": "", "__len__": "", "__str__": ""},
}

PROPERTIES = {
    ("forkcells.base.frames", "Frame"): ("arrays", "positions", "amounts", "lengths"),
    ("forkcells.world.situations", "Situation"): ("frame", "rows", "positions", "amounts", "lengths"),
    ("forkcells.solve.questions", "Question"): ("frame", "claims", "goal", "members", "fresh", "few", "facts"),
    ("forkcells.solve.trees", "Closing"): ("facts", "open_nodes", "tree"),
    ("forkcells.decide.follows", "Asker"): ("known",),
    ("forkcells.code.functions", "Function"): (
        "called", "arrays", "positions", "amounts", "places", "numbers", "rows", "notes", "before", "after", "frame",
        "start_frame", "end_frame", "conditions", "callees"),
    ("forkcells.code.programs", "Program"): ("functions", "names"),
    ("forkcells.runs.runs", "Run"): (
        "program", "active", "waiting", "stuck", "schedule", "trail", "places", "end"),
    ("forkcells.pieces.pieces", "Piece"): (
        "program", "called", "start", "stop", "answers", "trail", "frame", "claims", "facts", "names"),
    ("forkcells.desk.desk", "Desk"): ("names", "claims", "verdicts"),
}


def filled_desk():
    desk = Desk()
    desk.put(TWO.functions)
    return desk


def words(call, first):
    """The parameters of a function, in one text."""
    told = [str(one) for one in inspect.signature(call).parameters.values()]
    given = inspect.signature(call).parameters.values()
    if any([one.kind == one.KEYWORD_ONLY for one in given]):
        place = [one.kind == one.KEYWORD_ONLY for one in given].index(True)
        told.insert(place, "*")
    return ", ".join(told[first:])


class Interface(unittest.TestCase):
    def test_functions(self):
        for module, functions in FUNCTIONS.items():
            for name, parameters in functions.items():
                call = getattr(importlib.import_module(module), name)
                self.assertEqual(call.__module__, module)
                self.assertEqual(words(call, 0), parameters, name)

    def test_classes(self):
        for (module, name), methods in CLASSES.items():
            made = getattr(importlib.import_module(module), name)
            self.assertEqual(made.__module__, module)
            for method, parameters in methods.items():
                self.assertIn(method, vars(made))
                self.assertEqual(words(vars(made)[method], 1), parameters, (name, method))

    def test_constants(self):
        for module, constants in CONSTANTS.items():
            for name, number in constants.items():
                self.assertEqual(getattr(importlib.import_module(module), name), number)

    def test_properties(self):
        for (module, name), properties in PROPERTIES.items():
            made = getattr(importlib.import_module(module), name)
            for word in properties:
                self.assertIsInstance(vars(made)[word], property)


class Judging(unittest.TestCase):
    def test_every_value_is_accepted(self):
        calls = [is_name, FRAME.is_fresh, FRAME.is_position_term, FRAME.is_value_term, BROKEN.is_broken_by,
                 lambda value: is_claim(FRAME, value), lambda value: is_fitting(CHAIN, value),
                 lambda value: is_ring(CHAIN, value), lambda value: is_tree(NEXT, value),
                 lambda value: FRAME.is_position_term(value, own=("k", "m")),
                 lambda value: FRAME.is_value_term(value, own=("k",)), lambda value: value in FRAME,
                 lambda value: FRAME == value, lambda value: SHOWN == value, lambda value: NEXT == value,
                 lambda value: is_paper(NEXT, value), lambda value: is_paper(BROKEN, ("follows", value)),
                 lambda value: value in Asker(FRAME), lambda value: Asker(FRAME) == value,
                 lambda value: PAIR == value, lambda value: BOTH == value, lambda value: value in BOTH,
                 lambda value: Run(BOTH, "pair", ONES) == value,
                 lambda value: is_schedule(BOTH, "pair", ONES, value), lambda value: is_race(BOTH, "pair", ONES, value),
                 lambda value: is_parting(BOTH, "pair", ONES, value),
                 lambda value: is_parting(BOTH, "pair", ONES, (value, ())),
                 lambda value: is_race(BOTH, "pair", ONES, (value, (), value)),
                 lambda value: is_exchange_way(BOTH, "pair", ONES, ((),), ((),), value),
                 lambda value: is_exchange_way(BOTH, "pair", ONES, ((),), ((),), (value,)),
                 lambda value: is_kept_paper(TWO, value), lambda value: is_kept_paper(TWO, ("kept", value)),
                 lambda value: is_kept_paper(TWO, ("kept", {"fill": value, "halves": ((value,),)})),
                 lambda value: is_standing_paper(FILL, FILL, value),
                 lambda value: is_standing_paper(FILL, FILL, ("stands", value)),
                 lambda value: is_standing_paper(FILL, FILL, ("falls", value, value)),
                 lambda value: is_fitting_right(TWO, "fill", "a", value), lambda value: Desk() == value,
                 lambda value: value in Desk(), lambda value: pieces(TWO, "fill")[0] == value]
        deep = [("not", value) for value in odd_values()] + [(value,) * 3 for value in odd_values()]
        deep += [("and", (value, value)) for value in odd_values()] + [{"a": value} for value in odd_values()]
        for call in calls:
            for value in odd_values() + deep:
                self.assertIn(call(value), (True, False))
                self.assertIsInstance(call(value), bool)

    def test_true_is_not_one(self):
        self.assertFalse(FRAME.is_position_term(("i", True)))
        self.assertFalse(is_claim(FRAME, ("pos", "<", ("i", True), ("j", 0))))
        self.assertFalse(is_claim(FRAME, ("val", "<", ("a", "i", False, 0), ("x", 0))))
        self.assertFalse(is_fitting((("i", "", 1),), {"": 0, "i": True}))
        self.assertTrue(is_fitting((("i", "", 1),), {"": 0, "i": 1}))


class Integers(unittest.TestCase):
    def test_sixty_digits(self):
        for number, expected in ((SIXTY, True), (-SIXTY, True), (LONGER, False), (-LONGER, False)):
            self.assertIs(FRAME.is_position_term(("i", number)), expected)
            self.assertIs(is_claim(FRAME, ("val", "<", ("a", "i", number, 0), ("x", 0))), expected)
            self.assertIs(raised(Situation, FRAME, {"a": (number,)}, {"i": 0, "j": 0}, {"x": 0}) is None, expected)
            self.assertIs(raised(fitting, (("i", "j", number),)) is None, expected)
            self.assertIs(raised(SHOWN.cell, "a", number) is None, expected)
            self.assertIs(raised(Closing(BROKEN).apart, ("i", number), ("i", 0)) is None, expected)

    def test_returned_ones_can_be_longer(self):
        made = Situation(FRAME, {"a": (SIXTY,)}, {"i": SIXTY, "j": 0}, {"x": 0})
        self.assertEqual(made.position_at(("i", SIXTY)), 2 * SIXTY)
        self.assertEqual(tightest((("i", "j", SIXTY), ("j", "n", SIXTY)), "i", "n"), 2 * SIXTY)


class Unchanged(unittest.TestCase):
    def test_arguments_stay(self):
        rows, positions, values = {"a": (1, 2)}, {"j": 1, "i": 2}, {"x": 3}
        names, terms = {"i": "k", "j": "i"}, {"i": ("p", 1), "j": ("", 0), "x": ("b", "p", 0, 2)}
        arrays, put, value = {"a": "b"}, {"i": ("j", 1)}, {"": 0, "j": 2, "i": 4}
        passed = (rows, positions, values, names, terms, arrays, put, value)
        before = copy.deepcopy(passed)
        orders = [list(table) for table in passed]
        Situation(FRAME, rows, positions, values)
        FRAME.renamed(names)
        renamed_claim(FRAME, UPTO, names)
        replaced(FRAME, UPTO, put)
        carried(FRAME, UPTO, Frame((("b", "n"),), ("p",), ()), arrays, terms)
        is_fitting(CHAIN, value)
        self.assertEqual(passed, before)
        self.assertEqual([list(table) for table in passed], orders)

    def test_arguments_of_later_parts_stay(self):
        names, calls = {"a": "z"}, {"set": "put"}
        passed = (names, calls)
        before = copy.deepcopy(passed)
        texts = [str(value) for value in (NEXT, SHOWN, PAIR, COPY, BOTH, ONECELL, ONES, NOUGHTS)]
        rows = (PAIR.rows, COPY.rows, COPY.notes, COPY.after)
        PAIR.relabeled(names), BOTH.renamed(calls), BOTH.right_of_argument("pair", 0, 1, 0), BOTH.needed("pair")
        paper(NEXT), breaking(BROKEN), follows(NEXT), is_paper(NEXT, paper(NEXT))
        outcome(BOTH, "pair", ONES), first_break(BOTH, "pair", ONES), Run(BOTH, "pair", ONES).go_on()
        ends(ONECELL, "two", NOUGHTS), parting(ONECELL, "two", NOUGHTS), list(schedules(ONECELL, "two", NOUGHTS))
        first_race(ONECELL, "two", NOUGHTS)
        sorted_form(ONECELL, "two", NOUGHTS, ()), forms(ONECELL, "two", NOUGHTS), kept_paper(TWO), kinds_broken(TWO)
        standing_paper(FILL, FILL), filled_desk().demand(("kept", "fill")), write_functions(TWO.functions)
        self.assertEqual(passed, before)
        self.assertEqual([str(value) for value in (NEXT, SHOWN, PAIR, COPY, BOTH, ONECELL, ONES, NOUGHTS)], texts)
        self.assertEqual((PAIR.rows, COPY.rows, COPY.notes, COPY.after), rows)

    def test_objects_stay(self):
        texts = [str(value) for value in (FRAME, SHOWN, NEXT, BROKEN)]
        BROKEN.small(SHOWN), BROKEN.laid(SHOWN), BROKEN.new_numbers(SHOWN), BROKEN.with_given(UPTO)
        SHOWN.with_cell("a", 0, 9), FRAME.with_names(positions=("z",)), facts_at(
            Question(FRAME, (), ("and", ())), (("cases", 1, ()),), 0)
        self.assertEqual([str(value) for value in (FRAME, SHOWN, NEXT, BROKEN)], texts)
        self.assertEqual(SHOWN.rows, {"a": (4, 0, 7)})

    def test_returned_dicts_are_not_shared(self):
        made = fitting(CHAIN)
        made.clear()
        self.assertTrue(is_fitting(CHAIN, fitting(CHAIN)))
        laid = BROKEN.laid(SHOWN)
        laid.rows.clear(), laid.positions.clear()
        self.assertEqual(str(laid), "a=4 4 7 | i=2 j=2 | x=5")

    def test_equal_calls_return_equal_results(self):
        maker, other = Maker(WIDE, 71), Maker(WIDE, 71)
        for _ in range(30):
            one = Question(WIDE, (maker.claim(),), maker.claim())
            two = Question(WIDE, (other.claim(),), other.claim())
            situation, same = maker.situation(), other.situation()
            self.assertEqual([one.members, one.few, one.new_numbers(situation), str(one.laid(situation))],
                             [two.members, two.few, two.new_numbers(same), str(two.laid(same))])
            if one.is_broken_by(situation):
                self.assertTrue(one.small(situation) == two.small(same))
        self.assertEqual([fitting(CHAIN), ring(CHAIN + (("i", "j", 1),))], [fitting(CHAIN), ring(CHAIN + (("i", "j", 1),))])


class Iteration(unittest.TestCase):
    def test_only_where_a_section_says_so(self):
        self.assertEqual((len(list(PAIR)), len(list(BOTH))), (1, 2))
        self.assertEqual((list(Desk()), len(list(filled_desk()))), ([], 2))
        for value in (FRAME, SHOWN, NEXT, Closing(NEXT), Asker(FRAME), Run(BOTH, "pair", ONES), pieces(TWO, "fill")[0], Shell()):
            self.assertRaises(TypeError, iter, value)
            self.assertRaises(TypeError, list, value)


class LaterErrors(unittest.TestCase):
    """Several wrong arguments at once."""

    def first(self, expected, call, *told, **more):
        self.assertEqual(type(raised(call, *told, **more)).__name__, expected)

    def test_the_first_one_is_raised(self):
        self.first("InvalidName", Function, None, arrays=None, rows=None)
        self.first("InvalidNumber", COPY.with_notes, 7, None)
        self.first("InvalidOperation", is_within, None, None)
        self.first("UnknownName", BOTH.right_of_argument, "none", "x", "y", "z")
        self.first("InvalidNumber", BOTH.right_of_argument, "pair", 0, 5, 9)
        self.first("InvalidFunction", BOTH.with_function, None)
        self.first("InvalidProgram", BOTH.without, "set")
        self.first("InvalidProgram", Run, None, None, None, viewing=1)
        self.first("UnknownName", Run, BOTH, None, None, viewing=1)
        self.first("InvalidSituation", Run, BOTH, "pair", None, viewing=1)
        self.first("InvalidOperation", Run, BOTH, "pair", ONES, viewing=1, careless=1)
        self.first("InvalidOperation", Run(BOTH, "pair", ONES).right_at, None, None)
        self.first("InvalidClaim", Asker(FRAME).tell, None)
        self.first("InvalidQuestion", paper, None)
        self.first("InvalidProgram", is_schedule, None, None, None, None, whole=7)
        self.first("InvalidOperation", is_schedule, BOTH, "pair", ONES, None, whole=7)
        self.first("InvalidProgram", exchanged, None, None, None, None, None)
        self.first("InvalidOperation", exchanged, BOTH, "pair", ONES, None, None)
        self.first("InvalidNumber", exchanged, BOTH, "pair", ONES, (), None)
        self.first("InvalidProgram", is_kept, None, None)
        self.first("UnknownName", is_kept, TWO, None)
        self.first("InvalidFunction", is_standing_paper, FILL, None, None)
        self.first("InvalidOperation", is_standing_paper, FILL, HALVES, None)
        self.first("UnknownName", fitting_lows, TWO, "fill", None, None)
        self.first("InvalidOperation", fitting_lows, TWO, "fill", "a", None)
        self.first("UnknownName", Desk().revise, None, None)
        self.first("InvalidNumber", Desk().undo, many=None)
        self.first("InvalidFrame", read_situation, None, None)
        self.first("ParseError", read_situation, FRAME, None)

    def test_a_call_with_an_error_has_no_effect(self):
        run, asker = Run(BOTH, "pair", ONES), Asker(FRAME)
        asker.tell(UPTO)
        run.go(())
        for call in (lambda: run.go((5,)), lambda: run.go_on(most=-1), lambda: run.undo(many=9), lambda: asker.undo(many=9),
                     lambda: asker.tell(("or", ())), lambda: asker.tell(None)):
            self.assertIsNotNone(raised(call))
        self.assertEqual((run.schedule, run.active, asker.known), (((),), ((0,), (1,)), (UPTO,)))

    def test_sixty_digits(self):
        for number, good in ((SIXTY, True), (LONGER, False)):
            self.assertIs(raised(is_within, (0, number), (-number, number)) is None, good)
            self.assertIs(raised(Asker(FRAME).tell, ("val", "<", ("x", 0), ("x", number))) is None, good)
        self.assertIsNotNone(raised(SET.with_rows, (("write", "p", "g", 0, ("y", SIXTY)),), ()))
        self.assertIsNone(raised(Program, (SET.with_rows((("write", "p", "g", 0, ("y", 10 ** 40 - 1)),), ()),)))


class FirstErrors(unittest.TestCase):
    def test_several_wrong_arguments(self):
        self.assertRaises(InvalidFrame, carried, 1, 2, 3, 4, 5)
        self.assertRaises(InvalidFrame, Question, None, None, None)
        self.assertRaises(InvalidTerm, FRAME.shifted, None, None)
        self.assertRaises(InvalidNumber, FRAME.shifted, ("i", SIXTY), None)
        self.assertRaises(InvalidTerm, FRAME.shifted, ("i", SIXTY), SIXTY)

    def test_errors_behind_then_come_last(self):
        whole = Question(FRAME, (("and", ()),) * 40, ("and", ()))
        self.assertEqual(type(raised(whole.with_given, None)).__name__, "InvalidClaim")
        self.assertEqual(type(raised(whole.with_given, UPTO)).__name__, "InvalidOperation")
        self.assertEqual(type(raised(NEXT.small, None)).__name__, "InvalidSituation")
        self.assertEqual(type(raised(NEXT.small, SHOWN)).__name__, "InvalidOperation")
        broken = (("i", "i", -1),)
        self.assertEqual(type(raised(tightest, broken, "i", None)).__name__, "InvalidTerm")
        self.assertEqual(type(raised(tightest, broken, "i", "i")).__name__, "InvalidOperation")
        self.assertEqual(type(raised(used_at, FRAME, None, None)).__name__, "InvalidClaim")
        self.assertEqual(type(raised(SHOWN.failure, None)).__name__, "InvalidClaim")
        self.assertEqual(type(raised(SHOWN.failure, ("and", ()))).__name__, "InvalidOperation")

    def test_many_given_claims_and_members_are_no_error(self):
        self.assertIsNone(raised(Question, FRAME, (("not", UPTO),) * 40, UPTO))
        far = ("pos", "<", ("i", SIXTY), ("j", 0))
        self.assertNotIsInstance(raised(Question, FRAME, (far,), UPTO), TooMany)


if __name__ == "__main__":
    unittest.main()

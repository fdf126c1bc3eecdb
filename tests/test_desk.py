"""Parts 9 and 9a: a desk."""

import unittest

import forkcells.desk.desk as module
from forkcells.code.functions import Function
from forkcells.code.programs import Program
from forkcells.desk.desk import Desk
from forkcells.errors import (InvalidFunction, InvalidNumber, InvalidOperation, InvalidProgram, NothingToUndo, Refused,
                              TooMany, UnknownName)
from forkcells.pieces.kept import is_kept, is_orderless
from forkcells.runs.outcomes import first_break, outcome
from forkcells.text.texts import read_claim, read_function
from forkcells.use.contracts import stands_in
from forkcells.use.rights import with_rights
from forkcells.world.situations import Situation
from claim_makers import claimed_program
from code_samples import FILL, HALVES, LOOSE, OVER, PARTS, SET, TWO
from samples import odd_values, raised
from test_pieces import SKIP
from test_runs import fork, function, put

SPREAD = LOOSE["halves"]
BAD = FILL.with_contract((), FILL.after)
IDLE = Function("idle")


def desk_of(*functions, claims=()):
    desk = Desk()
    if functions:
        desk.put(functions)
    for claim in claims:
        desk.demand(claim)
    return desk


def state(desk):
    """All that can be seen of a desk, its twin with its history too."""
    twin, seen = desk.twin(), []
    many = 0
    while raised(twin.redo) is None:
        many += 1
    while True:
        seen.append((twin.names, [twin[name] for name in twin.names], twin.claims, twin.verdicts))
        if raised(twin.undo) is not None:
            break
    return many, seen, str(desk)


class Examples(unittest.TestCase):
    def test_document(self):
        desk = Desk()
        self.assertEqual([desk.put((HALVES, FILL)), desk.callers("fill"), desk.demand(("kept", "halves")), str(desk)],
                         [(("fill", "kept"), ("halves", "kept")), ("halves",), (), "desk of 2 functions, 1 claims"])
        self.assertEqual([desk.revise("fill", lambda function: function.with_contract((), function.after)), desk.undo(),
                          desk.verdicts, desk.whole() == TWO],
                         [(("fill", "broken"),), (("fill", "kept"),), {"fill": "kept", "halves": "kept"}, True])
        self.assertEqual([desk.waive(("kept", "halves")), desk.put((HALVES.with_rows((("fork", OVER),), ()),)), "halves" in desk,
                          len(desk)], [(), (("halves", "unordered"),), True, 2])
        self.assertEqual((module.MAX_FUNCTIONS, module.MAX_CLAIMS), (6, 8))


class Changes(unittest.TestCase):
    def refused(self, desk, expected, call, *more):
        """The call has no effect and raises this."""
        before = state(desk)
        error = raised(call, *more)
        self.assertEqual(type(error), type(expected), error)
        for word in ("reason", "bound", "name", "number", "asked"):
            self.assertEqual(getattr(error, word, None), getattr(expected, word, None))
        self.assertEqual(state(desk), before)

    def test_put(self):
        desk = Desk()
        self.assertEqual(desk.put((FILL,)), (("fill", "kept"),))
        self.assertEqual(desk.put((SPREAD,)), (("halves", "unordered"),))
        self.assertEqual(desk.put((HALVES, FILL)), (("halves", "kept"),))
        self.assertEqual(desk.put((HALVES, FILL)), ())
        self.assertEqual(desk.put((BAD, SPREAD)), (("fill", "broken"), ("halves", "unordered")))
        self.assertEqual((desk.names, desk["fill"], len(desk)), (("fill", "halves"), BAD, 2))

    def test_put_with_errors(self):
        desk = desk_of(FILL)
        for value in odd_values() + [FILL, [FILL], (FILL, FILL), (FILL, BAD), (FILL, None), (FILL, TWO)]:
            self.refused(desk, InvalidFunction(), desk.put, value)
        self.refused(desk, InvalidProgram(), desk.put, (FILL.relabeled({}).called_as("a"), HALVES.called_as("b").with_rows(
            (fork(("none", ("b",))),), ())))
        self.refused(desk, InvalidProgram(), desk.put, (HALVES, Function("fill")))

    def test_limit_of_functions(self):
        six = [IDLE.called_as(word) for word in "abcdef"]
        desk = desk_of(*six)
        self.assertEqual(len(desk), 6)
        self.assertEqual(desk.put((IDLE.called_as("a"),)), ())
        self.refused(desk, TooMany(6), desk.put, (IDLE.called_as("g"),))
        self.refused(desk, TooMany(6), desk.put, (IDLE.called_as("a"), function("g", fork(("none", ("a",))))))
        self.refused(Desk(), TooMany(6), Desk().put, tuple(six) + (IDLE.called_as("g"),))
        desk.take("c")
        self.assertEqual(desk.put((IDLE.called_as("g"),)), (("g", "kept"),))

    def test_take(self):
        desk = desk_of(FILL, HALVES)
        self.refused(desk, InvalidProgram(), desk.take, "fill")
        self.assertEqual(desk.take("halves"), (("halves", None),))
        self.assertEqual(desk.take("fill"), (("fill", None),))
        self.assertEqual((desk.names, len(desk), desk.verdicts), ((), 0, {}))
        for value in odd_values() + ["fill", "halves"]:
            self.refused(desk, UnknownName(value), desk.take, value)
        # A function that forks itself can be taken.
        own = function("own", fork(("own", ("a",))), before=(read_claim("[1 <= 0]"),))
        desk.put((own,))
        self.assertEqual(desk.take("own"), (("own", None),))

    def test_revise(self):
        desk = desk_of(FILL, HALVES, claims=(("orderless", "halves"),))
        self.assertEqual(desk.revise("fill", lambda function: function), ())
        seen = []
        self.assertEqual(desk.revise("fill", lambda function: seen.append(function) or BAD), (("fill", "broken"),))
        self.assertEqual(seen, [FILL])
        for value in odd_values() + [TWO, (FILL,)]:
            self.refused(desk, InvalidFunction(), desk.revise, "fill", lambda function: value)
            self.refused(desk, UnknownName(value), desk.revise, value, None)
        self.refused(desk, InvalidOperation(), desk.revise, "fill", lambda function: function.called_as("other"))
        self.refused(desk, InvalidOperation(), desk.revise, "fill", lambda function: HALVES)
        self.refused(desk, InvalidProgram(), desk.revise, "fill", lambda function: Function("fill"))
        self.refused(desk, Refused(("orderless", "halves")), desk.revise, "halves", lambda function: SPREAD)
        # What the change raises goes on.
        self.refused(desk, ZeroDivisionError(), desk.revise, "fill", lambda function: 1 // 0)
        self.refused(desk, UnknownName("none"), desk.revise, "fill", lambda function: TWO["none"])
        self.refused(desk, InvalidNumber(9), desk.revise, "fill", lambda function: function.with_notes(9, ()))
        # Nothing is called for a name that is unknown.
        self.refused(desk, UnknownName("none"), desk.revise, "none", lambda function: seen.append(1))
        self.assertEqual(len(seen), 1)

    def test_demand_and_waive(self):
        desk = desk_of(FILL, HALVES)
        good = (("kept", "fill"), ("orderless", "halves"), ("stands", "fill", "fill"), ("forks", "halves", "fill"))
        for claim in good:
            self.assertEqual(desk.demand(claim), ())
        self.assertEqual(desk.claims, good)
        for claim in good + tuple(odd_values()) + (
                ("kept",), ("kept", "fill", "fill"), ("stands", "fill"), ("forks", "fill"), ["kept", "fill"], ("holds", "fill"),
                ("kept", "Fill"), ("kept", 1), ("stands", "fill", ""), ("forks", "fill", "fill", "fill"), ("kept", ("fill",))):
            self.refused(desk, InvalidOperation(), desk.demand, claim)
        self.refused(desk, UnknownName("none"), desk.demand, ("kept", "none"))
        self.refused(desk, UnknownName("one"), desk.demand, ("stands", "one", "other"))
        self.refused(desk, UnknownName("other"), desk.demand, ("forks", "fill", "other"))
        for claim in (("forks", "fill", "halves"), ("stands", "fill", "halves"), ("forks", "fill", "fill")):
            self.refused(desk, Refused(claim), desk.demand, claim)
        for claim in odd_values() + [("kept", "halves"), ["kept", "fill"]]:
            self.refused(desk, InvalidOperation(), desk.waive, claim)
        self.assertEqual(desk.waive(good[1]), ())
        self.assertEqual(desk.claims, good[:1] + good[2:])
        self.assertEqual(desk.demand(good[1]), ())
        self.assertEqual(desk.claims, good[:1] + good[2:] + good[1:2])

    def test_limit_of_claims(self):
        six = [IDLE.called_as(word) for word in "abcdef"]
        desk = desk_of(*six, claims=[("kept", word) for word in "abcdef"] + [("orderless", "a"), ("orderless", "b")])
        self.refused(desk, TooMany(8), desk.demand, ("stands", "a", "b"))
        # Ahead of what does not hold, and behind names that are unknown.
        self.refused(desk, TooMany(8), desk.demand, ("forks", "a", "b"))
        self.refused(desk, UnknownName("g"), desk.demand, ("kept", "g"))
        self.refused(desk, InvalidOperation(), desk.demand, ("kept", "a"))
        desk.waive(("kept", "a"))
        self.assertEqual(desk.demand(("stands", "a", "b")), ())

    def test_claims_that_would_be_broken(self):
        desk = desk_of(FILL, HALVES, IDLE, claims=(
            ("forks", "halves", "fill"), ("kept", "halves"), ("kept", "fill"), ("kept", "idle")))
        self.refused(desk, Refused(("kept", "halves")), desk.put, (SPREAD,))
        self.refused(desk, Refused(("kept", "fill")), desk.put, (BAD,))
        self.refused(desk, Refused(("kept", "halves")), desk.put, (BAD, SPREAD))
        self.refused(desk, Refused(("forks", "halves", "fill")), desk.put, (HALVES.with_rows((), ()),))
        # Functions that are gone.
        self.refused(desk, Refused(("kept", "idle")), desk.take, "idle")
        self.refused(desk, Refused(("forks", "halves", "fill")), desk.take, "halves")
        # No program comes ahead of claims.
        self.refused(desk, InvalidProgram(), desk.take, "fill")
        desk.waive(("forks", "halves", "fill"))
        self.refused(desk, Refused(("kept", "halves")), desk.take, "halves")

    def test_the_last_function(self):
        desk = desk_of(IDLE, claims=(("kept", "idle"),))
        self.refused(desk, Refused(("kept", "idle")), desk.take, "idle")
        desk.waive(("kept", "idle"))
        self.assertEqual(desk.take("idle"), (("idle", None),))

    def test_errors_of_deciding(self):
        """Verdicts of all functions come first, by ascending names, and then the claims."""
        writes, many, far = (function("m", *((put(0, 1),) * 5)), function("z", *((SKIP,) * 7)),
                             function("b", put(0, 1), before=(read_claim("[999 <= n]"),)))
        desk = desk_of(FILL, claims=(("kept", "fill"),))
        self.refused(desk, TooMany(4), desk.put, (writes, many))
        self.refused(desk, TooMany(1000), desk.put, (writes, many, far))
        # A verdict ahead of a claim that does not hold.
        self.refused(desk, TooMany(64), desk.put, (many, BAD))
        given = function("g", ("if", ("and", tuple([read_claim("[%d <= n]" % k) for k in range(41)]) + (
            read_claim("a[0] == 0"),)), (), ()))
        self.refused(desk, InvalidOperation(), desk.put, (given,))
        # Claims in their order: the first one that does not hold, or that cannot be decided.
        near = function("near", put(0, 1), before=(read_claim("[1 <= n]"),))
        other = near.called_as("other")
        cells = "and(%s)" % ", ".join(["a[n+%d] == 0" % k for k in range(1, 20)])
        desk = desk_of(near, other, claims=(("stands", "near", "other"), ("kept", "near")))
        deep = Function("other", arrays=near.arrays, before=(read_claim("[1 <= n]"),), after=(read_claim(cells),))
        self.refused(desk, TooMany(16), desk.put, (deep,))
        less = near.with_contract((), ())
        self.refused(desk, Refused(("kept", "near")), desk.put, (less,))
        self.refused(desk, Refused(("stands", "near", "other")), desk.put, (near.with_contract((read_claim("[2 <= n]"),), ()),))

    def test_verdict_and_orderless(self):
        """An unordered function is not asked whether it is kept; so a question that is too great is no error."""
        cells = ("and", tuple([("val", "==", ("b", "m", k, 0), ("", 0)) for k in range(20)]))
        wrong = HALVES.with_rows((("fork", OVER), ("if", cells, (), ())), ())
        desk = desk_of(FILL, wrong)
        self.assertEqual(desk.verdicts, {"fill": "kept", "halves": "unordered"})
        right = HALVES.with_rows((("fork", PARTS), ("if", cells, (), ())), ())
        self.refused(desk, TooMany(16), desk.put, (right,))


class History(unittest.TestCase):
    def made(self):
        desk = Desk()
        desk.put((FILL,))
        desk.put((HALVES,))
        desk.put((HALVES,))
        desk.demand(("kept", "halves"))
        desk.waive(("kept", "halves"))
        desk.put((SPREAD,))
        return desk

    def test_undo_and_redo(self):
        desk = self.made()
        end = state(desk)
        self.assertEqual(desk.undo(), (("halves", "kept"),))
        self.assertEqual(desk.undo(many=0), ())
        self.assertEqual(desk.undo(), ())
        self.assertEqual(desk.claims, (("kept", "halves"),))
        self.assertEqual(desk.undo(many=2), ())
        self.assertEqual((desk.claims, desk.names), ((), ("fill", "halves")))
        self.assertEqual(desk.undo(), (("halves", None),))
        self.assertEqual(desk.redo(many=5), (("halves", "unordered"),))
        self.assertEqual(state(desk), end)
        self.assertEqual(desk.undo(many=6), (("fill", None), ("halves", None)))
        self.assertEqual((len(desk), desk == Desk()), (0, True))
        self.assertEqual(desk.redo(), (("fill", "kept"),))
        self.assertEqual(desk.redo(many=0), ())

    def test_too_many(self):
        desk = self.made()
        for call in (desk.undo, desk.redo):
            for value in [value for value in odd_values() if value not in (0, 7)] + [-1, True, "1", 10 ** 60]:
                error = raised(call, many=value)
                self.assertIsInstance(error, InvalidNumber, value)
                self.assertEqual(error.number, value)
        for many in (7, 10 ** 59):
            error = raised(desk.undo, many=many)
            self.assertIsInstance(error, NothingToUndo)
            self.assertEqual(error.asked, many)
        self.assertEqual(raised(desk.redo).asked, 1)
        desk.undo(many=2)
        self.assertEqual(raised(desk.redo, many=3).asked, 3)
        self.assertEqual(desk.redo(many=2), (("halves", "unordered"),))

    def test_behind_a_new_change(self):
        desk = self.made()
        desk.undo(many=4)
        self.assertEqual(desk.put((IDLE,)), (("idle", "kept"),))
        self.assertEqual(raised(desk.redo).asked, 1)
        self.assertEqual(desk.undo(many=3), (("fill", None), ("halves", None), ("idle", None)))
        self.assertEqual(desk.redo(many=3), (("fill", "kept"), ("halves", "kept"), ("idle", "kept")))

    def test_a_change_that_is_refused_leaves_what_can_be_done_again(self):
        desk = self.made()
        desk.undo(many=2)
        self.assertIsInstance(raised(desk.put, (SPREAD,)), Refused)
        self.assertIsInstance(raised(desk.take, "fill"), InvalidProgram)
        self.assertEqual(desk.redo(many=2), (("halves", "unordered"),))

    def test_changes_that_leave_all_equal_count(self):
        desk = desk_of(FILL)
        desk.put((FILL,))
        desk.revise("fill", lambda function: function)
        self.assertEqual([desk.undo(), desk.undo(), desk.undo()], [(), (), (("fill", None),)])
        self.assertEqual(raised(desk.undo).asked, 1)

    def test_twin(self):
        desk = self.made()
        desk.undo(many=2)
        twin = desk.twin()
        self.assertEqual(state(twin), state(desk))
        self.assertEqual(twin.redo(many=2), (("halves", "unordered"),))
        self.assertEqual(desk.claims, (("kept", "halves"),))
        desk.put((IDLE,))
        self.assertEqual((twin.names, len(desk)), (("fill", "halves"), 3))
        twin.undo(many=6)
        self.assertEqual(desk.undo(many=1), (("idle", None),))

    def test_during(self):
        desk = self.made()
        desk.undo(many=2)
        before = state(desk)

        def inside(one):
            self.assertIs(one, desk)
            one.waive(("kept", "halves"))
            one.put((SPREAD, IDLE))
            one.undo(many=3)
            one.redo(many=2)
            return one.verdicts
        self.assertEqual(desk.during(inside), {"fill": "kept", "halves": "kept"})
        self.assertEqual(state(desk), before)
        self.assertEqual(desk.during(lambda one: one.redo(many=2)), (("halves", "unordered"),))
        self.assertEqual(state(desk), before)

        def wrong(one):
            one.redo(many=2)
            one.take("halves")
            raise KeyError("x")
        self.assertIsInstance(raised(desk.during, wrong), KeyError)
        self.assertEqual(state(desk), before)
        self.assertIsInstance(raised(desk.during, lambda one: one.put((SPREAD,))), Refused)
        self.assertEqual(state(desk), before)

        def nested(one):
            one.put((IDLE,))
            seen = one.during(lambda other: (other.take("idle"), len(other)))
            return seen, len(one)
        self.assertEqual(desk.during(nested), (((("idle", None),), 2), 3))
        self.assertEqual(state(desk), before)


class Values(unittest.TestCase):
    def test_reading(self):
        desk = desk_of(HALVES, FILL, claims=(("kept", "halves"), ("stands", "fill", "fill")))
        self.assertEqual((desk.names, desk.claims), (("fill", "halves"), (("kept", "halves"), ("stands", "fill", "fill"))))
        self.assertEqual((list(desk), len(desk), str(desk)), (["fill", "halves"], 2, "desk of 2 functions, 2 claims"))
        self.assertEqual((desk["fill"], desk["halves"], desk.whole()), (FILL, HALVES, TWO))
        for value in ("fill", "halves", ("kept", "halves"), ("stands", "fill", "fill")):
            self.assertIs(value in desk, True)
        for value in odd_values() + ["none", ("kept", "fill"), ["kept", "halves"], ("stands", "fill", "halves"), FILL]:
            self.assertIs(value in desk, False)
        for value in odd_values() + ["none", ("kept", "halves")]:
            self.assertEqual(raised(lambda: desk[value]).name, value)
            self.assertEqual(raised(desk.callers, value).name, value)
        desk.verdicts.clear()
        self.assertEqual(desk.verdicts, {"fill": "kept", "halves": "kept"})
        self.assertEqual(list(desk.verdicts), ["fill", "halves"])

    def test_callers(self):
        desk = desk_of(HALVES, FILL, function("own", fork(("own", ("a",)), ("fill", ("a",), (("", 0), ("", 0)), (("", 0),)))))
        self.assertEqual([desk.callers(name) for name in ("fill", "halves", "own")], [("halves", "own"), (), ("own",)])

    def test_an_empty_one(self):
        desk = Desk()
        self.assertIsInstance(raised(desk.whole), InvalidOperation)
        self.assertEqual((desk.names, desk.claims, desk.verdicts, len(desk), list(desk), str(desk)),
                         ((), (), {}, 0, [], "desk of 0 functions, 0 claims"))
        self.assertEqual(raised(desk.callers, "fill").name, "fill")

    def test_equality(self):
        desk = desk_of(HALVES, FILL, claims=(("kept", "fill"), ("kept", "halves")))
        other = desk_of(FILL, IDLE)
        self.assertFalse(desk == other)
        other.take("idle")
        other.put((HALVES,))
        self.assertFalse(desk == other)
        other.demand(("kept", "fill"))
        other.demand(("kept", "halves"))
        self.assertTrue(desk == other)
        self.assertFalse(desk != other)
        other.waive(("kept", "fill"))
        other.demand(("kept", "fill"))
        self.assertFalse(desk == other)
        self.assertFalse(desk_of(FILL) == desk_of(IDLE))
        self.assertFalse(desk_of(FILL) == desk_of(BAD))
        self.assertTrue(desk_of(FILL) == desk_of(FILL))
        for value in odd_values() + [TWO, desk.names]:
            self.assertFalse(desk == value)
            self.assertTrue(desk != value)


class Meaning(unittest.TestCase):
    """[9.1], [9.2], [9.4]"""

    def test_verdicts_and_claims_of_random_programs(self):
        """Verdicts stay right, whatever changes come."""
        counts, many = {}, 0
        for seed in range(120):
            code, maker = claimed_program(seed, 0.6, seed % 2 == 0)
            other, _ = claimed_program(seed + 2, 0.6, seed % 2 == 0)
            desk = Desk()
            if raised(desk.put, code.functions) is not None:
                continue
            for step in range(4):
                told = maker.rng.choice(other.functions)
                before = dict(desk.verdicts)
                if raised(desk.put, (told,)) is not None:
                    continue
                many += 1
                self.assertEqual(desk.verdicts, {called: self.verdict(desk.whole(), called) for called in desk.names})
                changed = [called for called in desk.names if before.get(called) != desk.verdicts[called]]
                self.assertTrue(set(changed) <= {told.called} | set(desk.callers(told.called)))
            for called in desk.names:
                counts[desk.verdicts[called]] = counts.get(desk.verdicts[called], 0) + 1
                self.claims(desk, called)
        self.assertGreater(many, 50)
        self.assertGreater(min([counts.get(word, 0) for word in ("kept", "broken", "unordered")]), 10, counts)

    def verdict(self, code, called):
        if not is_orderless(code, called):
            return "unordered"
        return "kept" if is_kept(code, called) else "broken"

    def claims(self, desk, called):
        code = desk.whole()
        holds = {("kept", called): desk.verdicts[called] == "kept", ("orderless", called): desk.verdicts[called] != "unordered"}
        for other in desk.names:
            holds["forks", called, other] = other in code[called].callees
            holds["stands", called, other] = raised(stands_in, code[called], code[other]) is None and stands_in(code[called], code[other])
        for claim in holds:
            error = raised(desk.twin().demand, claim)
            if not isinstance(error, TooMany):
                self.assertEqual(error is None, holds[claim], claim)

    def test_a_change_that_leaves_heads_alone(self):
        desk = desk_of(FILL, HALVES)
        self.assertEqual(desk.revise("fill", lambda function: function.with_rows((), ())), (("fill", "broken"),))
        other = desk_of(FILL, HALVES)
        narrow = with_rights(FILL, {"a": (("s", 0), ("t", 1))})
        self.assertEqual(other.put((narrow,)), (("halves", "unordered"),))

    def test_one_that_may_stand_in(self):
        desk = desk_of(FILL, HALVES)
        better = FILL.with_contract(FILL.before[:1], FILL.after)
        self.assertTrue(stands_in(better, FILL))
        desk.put((better,))
        self.assertEqual(desk.verdicts["halves"], "kept")

    def test_all_kept(self):
        desk = desk_of(FILL, HALVES)
        for many in range(4):
            for h in range(many + 1):
                situation = Situation(HALVES.start_frame, {"b": tuple(range(many))}, {"h": h}, {})
                self.assertIsNone(first_break(desk.whole(), "halves", situation))


class FalseSentences(unittest.TestCase):
    """[9.5]: an example for each of them."""

    def test_no_verdict_is_unordered_and_a_run_has_a_fault_of_rights(self):
        desk = desk_of(SET)
        self.assertEqual(desk.verdicts, {"set": "broken"})
        leaf = read_function("leaf(full p:l was pp from 0 to 0 | g | -) with (- | -) before (-) after (-) notes () { p[g] = 1 }")
        desk = desk_of(leaf)
        self.assertEqual(desk.verdicts, {"leaf": "broken"})
        situation = Situation(leaf.start_frame, {"p": (1, 1)}, {"g": 1}, {})
        self.assertEqual(outcome(Program((leaf,)), "leaf", situation)[1][0][3], ("right", "p"))

    def test_forks_of_kept_functions(self):
        desk = desk_of(FILL, HALVES.with_contract((), ()))
        self.assertEqual(desk.verdicts, {"fill": "kept", "halves": "unordered"})

    def test_a_claim_that_is_refused_is_demanded_later(self):
        desk = desk_of(FILL, SPREAD)
        self.assertIsInstance(raised(desk.demand, ("kept", "halves")), Refused)
        desk.put((HALVES,))
        self.assertEqual(desk.demand(("kept", "halves")), ())


if __name__ == "__main__":
    unittest.main()

"""Pieces as runs go along them: what a piece says is held against what its function saw on its way.

A tracker follows the first function of a plain viewing run. Each time that the function comes to a loop
or ends, it has gone along a piece; the arrays, numbers and versions that were seen on it make a
situation of the frame of the piece.
"""

from forkcells.world.situations import Situation
from naive_runs import NaiveRun, many


def walks(function):
    """All tuples (start, answers, stop, trail), by going through rows in rows."""
    loops = {}

    def number_loops(rows, number):
        for row in rows:
            if row[0] == "while":
                loops[number] = len(loops)
            inner = number + 1
            for part in row[2:] if row[0] in ("if", "while") else ():
                number_loops(part, inner)
                inner += sum([many((one,)) for one in part])
            number += many((row,))
    number_loops(function.rows, 0)
    found = []

    def go(start, answers, trail, rows, number, behind):
        """`behind` goes on behind these rows."""
        if not rows:
            behind(start, answers, trail)
            return
        row, after = rows[0], number + many((rows[0],))

        def rest(start, answers, trail):
            go(start, answers, trail, rows[1:], after, behind)
        if row[0] == "while":
            found.append((start, answers, loops[number], trail))
        elif row[0] == "if":
            ask_if(start, answers, trail, row, number, rest)
        else:
            rest(start, answers, trail + (number,))

    def ask_if(start, answers, trail, row, number, rest):
        middle = number + 1 + sum([many((one,)) for one in row[2]])
        go(start, answers + (False,), trail + (number,), row[3], middle, rest)
        go(start, answers + (True,), trail + (number,), row[2], number + 1, rest)

    def ended(start, answers, trail):
        found.append((start, answers, -1, trail))

    def from_loops(rows, number, behind):
        """Goes from each loop in these rows."""
        for k, row in enumerate(rows):
            after = number + many((row,))

            def rest(start, answers, trail, k=k, after=after):
                go(start, answers, trail, rows[k + 1:], after, behind)
            if row[0] == "while":
                def again(start, answers, trail, number=number):
                    found.append((start, answers, loops[number], trail))
                rest(loops[number], (False,), (number,))
                go(loops[number], (True,), (number,), row[2], number + 1, again)
                from_loops(row[2], number + 1, again)
            elif row[0] == "if":
                from_loops(row[2], number + 1, rest)
                from_loops(row[3], number + 1 + sum([many((one,)) for one in row[2]]), rest)
            number = after
    go(-1, (), (), function.rows, 0, ended)
    from_loops(function.rows, 0, ended)
    return sorted(found)


class Seen:
    """What one piece of the way saw: its situation so far, and what is expected of its claims."""

    def __init__(self, start, doer):
        self.start, self.answers, self.trail = start, (), ()
        self.views = {array: tuple(row) for array, row in doer.views.items()}
        self.nums, self.olds = dict(doer.nums), dict(doer.olds)
        self.versions, self.facts, self.questions = [], [], []
        self.fault = None

    def situation(self, frame):
        """Versions that were not made yet are rows of noughts."""
        rows, left = {}, list(self.versions)
        for array, length in frame.arrays:
            if array in self.views:
                rows[array] = self.views[array]
            elif array in self.olds:
                rows[array] = self.olds[array]
            else:
                rows[array] = tuple(left.pop(0)) if left else (0,) * self.nums[length]
        return Situation(frame, rows, {word: self.nums[word] for word in frame.positions},
                         {word: self.nums[word] for word in frame.amounts})


def sight(frame, views, olds, nums):
    rows = {**{array: tuple(row) for array, row in views.items()}, **olds}
    return Situation(frame, {array: rows[array] for array, _ in frame.arrays},
                     {word: nums[word] for word in frame.positions}, {word: nums[word] for word in frame.amounts})


class Tracker:
    """Goes along with a run; `told` has what each piece of the way saw."""

    def __init__(self, program, called, situation, choose):
        self.program, self.function = program, program[called]
        self.run = NaiveRun(program, called, situation, viewing=True)
        self.choose = choose
        self.told, self.ends = [], {}
        self.now = None

    def go(self, most):
        if () not in self.run.doers:
            return
        self.begin(-1, self.function.before, self.function.start_frame)
        for _ in range(most):
            if self.arrive():
                return
            active = self.run.active()
            if not active:
                return
            self.step(self.choose(active))

    def begin(self, start, claims, frame):
        doer = self.run.doers[()]
        self.now = Seen(start, doer)
        seen = sight(frame, doer.views, doer.olds, doer.nums)
        self.now.facts = [seen.holds(claim) for claim in claims]
        self.told.append(self.now)

    def finish(self, stop, doer, kind, claims, frame):
        self.now.stop = stop
        seen = sight(frame, doer.views, doer.olds, doer.nums)
        for index, claim in enumerate(claims):
            self.now.questions.append(((kind, index), seen.holds(claim)))

    def arrive(self):
        """Whether the function has ended or is stuck; a new piece begins where it is at a loop."""
        doer = self.run.doers.get(())
        if doer is None:
            if self.run.last is not None:
                self.finish(-1, self.run.last, "after", self.function.after, self.function.end_frame)
            return True
        if doer.branches is not None:
            return False
        number = doer.stack[-1][2]
        if doer.row()[0] == "while" and not (self.now.trail == () and self.now.start >= 0):
            loop = len([row for row in range(number) if self.function.row(row)[0] == "while"])
            self.finish(loop, doer, "note", self.function.notes[loop], self.function.frame)
            self.begin(loop, self.function.notes[loop], self.function.frame)
        if self.now.trail[-1:] != (number,):
            self.look(doer, number)
        return self.now.fault is not None

    def look(self, doer, number):
        """What the row asks, ahead of its step."""
        row = doer.row()
        _, fault, answer = self.run.ask(())
        self.now.trail += (number,)
        if row[0] in ("if", "while") and fault is None:
            self.now.answers += (answer,)
        if fault is not None:
            self.now.fault = (number, fault)
        if row[0] == "fork" and (fault is None or fault[0] in ("within", "meet")):
            self.look_at_rights(doer, number, row[1])

    def look_at_rights(self, doer, number, calls):
        told = self.run.arguments(doer, calls)
        for b, i, array, _, (low, high) in told:
            mine = doer.rights[array]
            self.now.questions.append((("within", number, b, i), high <= low or mine[0] <= low and high <= mine[1]))
        for k, (b, i, array, way, one) in enumerate(told):
            for c, j, other, other_way, two in told[k + 1:]:
                if array == other and "full" in (way, other_way):
                    apart = not set(range(*one)) & set(range(*two))
                    self.now.questions.append((("apart", number, b, i, c, j), apart))

    def step(self, path):
        doer = self.run.doers.get(())
        row = doer.row()
        mine = path == ()
        number = doer.stack[-1][2]
        self.run.go(path)
        for word, where, one, views, nums in self.run.noted:
            if len(where) == 1 and word == "before":
                seen = sight(one.function.start_frame, views, {}, nums)
                for index, claim in enumerate(one.function.before):
                    self.now.questions.append((("before", number, where[0], index), seen.holds(claim)))
            elif len(where) == 1:
                self.ends[where[0]] = (one, views, sight(one.function.end_frame, views, one.olds, nums))
        if row[0] == "write" and mine:
            self.now.versions.append(tuple(doer.views[row[1]]))
            self.now.facts += [True, True]
        elif row[0] in ("if", "while") and mine:
            self.now.facts.append(True)
        elif row[0] == "fork" and doer.branches is None and len(self.ends) == len(row[1]):
            self.join(doer, row[1])

    def join(self, doer, calls):
        """The fork has ended: its versions, and what is true behind it."""
        changed = {}
        for b, call in enumerate(calls):
            one, views, seen = self.ends[b]
            for told, array in zip(one.function.arrays, call[1]):
                if told[0] == "full":
                    changed.setdefault(array, []).append(b)
                    self.now.versions.append(tuple(views[told[1]]))
                    self.now.facts.append(True)
            self.now.facts += [seen.holds(claim) for claim in one.function.after]
        for told in self.function.arrays:
            if told[1] in changed:
                self.now.versions.append(tuple(doer.views[told[1]]))
                self.now.facts += [True] * (len(changed[told[1]]) + 1)
        self.ends.clear()

"""Runs by the words of [4.1] to [4.5] alone, with state that is changed in place."""

import copy


def many(rows):
    return sum([1 + sum([many(part) for part in row[2:] if row[0] in ("if", "while")]) for row in rows])


def number_at(nums, term):
    return (nums[term[0]] if term[0] else 0) + term[1]


class Stop(Exception):
    pass


class Doer:
    """One function that runs: `stack` has triples [rows, index, number of the row there]."""

    def __init__(self, function, nums, views, homes):
        self.function, self.views, self.homes = function, views, homes
        self.nums = dict(nums)
        for array in function.arrays:
            self.nums[array[2]] = len(views[array[1]])
        for word in function.places + function.numbers:
            self.nums[word] = 0
        self.olds = {array[3]: tuple(views[array[1]]) for array in function.arrays if array[0] == "full"}
        self.rights = {array[1]: tuple([number_at(self.nums, term) for term in array[-2:]])
                       for array in function.arrays}
        self.stack = [[function.rows, 0, 0]]
        self.branches = None
        self.tidy()

    def tidy(self):
        """Leaves rows that are through; a while is asked again."""
        while self.stack and self.stack[-1][1] == len(self.stack[-1][0]):
            self.stack.pop()
            if self.stack and self.row()[0] == "if":
                self.skip()

    def skip(self):
        frame = self.stack[-1]
        frame[2] += many((frame[0][frame[1]],))
        frame[1] += 1

    def row(self):
        rows, index, _ = self.stack[-1]
        return rows[index]

    def enter(self, rows, number):
        self.stack.append([rows, 0, number])

    def full(self, array):
        return [told for told in self.function.arrays if told[1] == array][0][0] == "full"


class NaiveRun:
    def __init__(self, program, called, situation, viewing=False, careless=False):
        self.program, self.viewing, self.careless = program, viewing, careless
        self.places = {array: list(row) for array, row in situation.rows.items()}
        # What began and ended in the last step, with what was seen then.
        self.doers, self.noted, self.last = {}, [], None
        function = program[called]
        views = {array: list(row) for array, row in situation.rows.items()}
        nums = {**situation.positions, **situation.amounts}
        self.begin((), Doer(function, nums, views, {array: array for array in views}))
        if not function.rows:
            self.end(())

    def copy(self):
        return copy.deepcopy(self)

    def begin(self, path, doer):
        self.doers[path] = doer
        self.note("before", path, doer)

    def note(self, word, path, doer):
        views = {array: list(row) for array, row in doer.views.items()}
        self.noted.append((word, path, doer, views, dict(doer.nums)))

    def row_of(self, doer, array):
        return doer.views[array] if self.viewing else self.places[doer.homes[array]]

    def look(self, doer, asked, term, word="look"):
        """Asks for a cell, which is noted unless there is a fault."""
        array, position = term[0], number_at(doer.nums, term[1:3])
        row = self.row_of(doer, array)
        if position < 0 or position >= len(row):
            raise Stop(("outside", array))
        low, high = doer.rights[array]
        if not self.careless and not (low <= position and position < high):
            raise Stop(("right", array))
        asked.append((array, position, word))
        return row[position]

    def value(self, doer, asked, term):
        if len(term) == 2:
            return number_at(doer.nums, term)
        return self.look(doer, asked, term) + term[3]

    def truth(self, doer, asked, claim):
        word = claim[0]
        if word == "not":
            return not self.truth(doer, asked, claim[1])
        if word == "and":
            for part in claim[1]:
                if not self.truth(doer, asked, part):
                    return False
            return True
        if word == "or":
            for part in claim[1]:
                if self.truth(doer, asked, part):
                    return True
            return False
        if word == "pos":
            one, other = number_at(doer.nums, claim[2]), number_at(doer.nums, claim[3])
        else:
            one, other = self.value(doer, asked, claim[2]), self.value(doer, asked, claim[3])
        return {"<=": one <= other, "<": one < other, "==": one == other}[claim[1]]

    def arguments(self, doer, calls):
        found = []
        for b, (called, arrays, positions, _) in enumerate(calls):
            callee = self.program[called]
            nums = {word: number_at(doer.nums, term) for word, term in zip(callee.positions, positions)}
            for told, array in zip(callee.arrays, arrays):
                nums[told[2]] = doer.nums[doer.function.frame.length_of(array)]
            for i, (told, array) in enumerate(zip(callee.arrays, arrays)):
                right = tuple([number_at(nums, term) for term in told[-2:]])
                found.append((b, i, array, told[0], right))
        return found

    def ask(self, path):
        """The cells that are asked up to a fault, the fault, and the answer of a condition."""
        doer = self.doers[path]
        row, asked, answer = doer.row(), [], None
        try:
            if row[0] in ("if", "while"):
                answer = self.truth(doer, asked, row[1])
            elif row[0] == "keep":
                self.value(doer, asked, row[2])
            elif row[0] == "write":
                self.value(doer, asked, row[4])
                self.look(doer, asked, row[1:4], "write")
            elif row[0] == "fork":
                for call in row[1]:
                    for term in call[3]:
                        self.value(doer, asked, term)
                if not self.careless:
                    self.ask_rights(doer, row[1])
        except Stop as stop:
            return asked, stop.args[0], None
        return asked, None, answer

    def ask_rights(self, doer, calls):
        told = self.arguments(doer, calls)
        for b, i, array, _, (low, high) in told:
            if low < high and not (doer.rights[array][0] <= low and high <= doer.rights[array][1]):
                raise Stop(("within", b, i))
        for k, (b, i, array, way, right) in enumerate(told):
            for c, j, other, other_way, other_right in told[k + 1:]:
                shared = max(right[0], other_right[0]) < min(right[1], other_right[1])
                solid = right[0] < right[1] and other_right[0] < other_right[1]
                if array == other and "full" in (way, other_way) and shared and solid:
                    raise Stop(("meet", b, i, c, j))

    def ready(self):
        return sorted([path for path, doer in self.doers.items() if doer.branches is None])

    def active(self):
        return [path for path in self.ready() if self.ask(path)[1] is None]

    def waiting(self):
        return sorted([path for path, doer in self.doers.items() if doer.branches is not None])

    def stuck(self):
        return [(path,) + self.at(path) + (self.ask(path)[1],) for path in self.ready() if self.ask(path)[1]]

    def at(self, path):
        doer = self.doers[path]
        return (doer.function.called, doer.stack[-1][2])

    def touches(self, path):
        doer = self.doers[path]
        return sorted(set([(doer.homes[array], position, word) for array, position, word in self.ask(path)[0]]))

    def go(self, path):
        self.noted = []
        doer = self.doers[path]
        row, number = doer.row(), doer.stack[-1][2]
        asked = []
        if row[0] == "fork":
            self.fork(path, doer, row[1])
            return
        if row[0] == "move":
            doer.nums[row[1]] = number_at(doer.nums, row[2])
        elif row[0] == "keep":
            doer.nums[row[1]] = self.value(doer, asked, row[2])
        elif row[0] == "write":
            content, position = self.value(doer, asked, row[4]), number_at(doer.nums, row[2:4])
            doer.views[row[1]][position] = content
            if not self.viewing:
                self.places[doer.homes[row[1]]][position] = content
        if row[0] == "while" and self.truth(doer, asked, row[1]):
            doer.enter(row[2], number + 1)
        elif row[0] == "if" and self.truth(doer, asked, row[1]):
            doer.enter(row[2], number + 1)
        elif row[0] == "if":
            doer.enter(row[3], number + 1 + many(row[2]))
        else:
            doer.skip()
        doer.tidy()
        if not doer.stack:
            self.end(path)

    def fork(self, path, doer, calls):
        doer.branches = {}
        for b, (called, arrays, positions, values) in enumerate(calls):
            callee = self.program[called]
            nums = {word: number_at(doer.nums, term) for word, term in zip(callee.positions, positions)}
            nums.update({word: self.value(doer, [], term) for word, term in zip(callee.amounts, values)})
            views = {told[1]: list(doer.views[array]) for told, array in zip(callee.arrays, arrays)}
            homes = {told[1]: doer.homes[array] for told, array in zip(callee.arrays, arrays)}
            self.begin((*path, b), Doer(callee, nums, views, homes))
        for b, call in enumerate(calls):
            if not self.program[call[0]].rows:
                self.end((*path, b))

    def end(self, path):
        doer = self.doers.pop(path)
        self.note("after", path, doer)
        if path == ():
            self.last = doer
            return
        above = self.doers[path[:-1]]
        above.branches[path[-1]] = doer
        calls = above.row()[1]
        if len(above.branches) < len(calls):
            return
        for b, call in enumerate(calls):
            branch = above.branches[b]
            for told, array in zip(branch.function.arrays, call[1]):
                if told[0] == "full":
                    low, high = branch.rights[told[1]]
                    for k in range(len(above.views[array])):
                        if low <= k and k < high:
                            above.views[array][k] = branch.views[told[1]][k]
        above.branches = None
        above.skip()
        above.tidy()
        if not above.stack:
            self.end(path[:-1])

    def key(self):
        """What a moment is, in a careless sharing run."""
        told = []
        for path in sorted(self.doers):
            doer = self.doers[path]
            told.append((path,) + self.at(path) + (tuple(sorted(doer.nums.items())),))
        return (tuple(told), tuple([tuple(self.places[array]) for array in sorted(self.places)]))

"""What a run is behind its steps: its workers, and the contents of places."""

from forkcells.runs.faults import Look, asked
from forkcells.runs.flow import flow_of
from forkcells.runs.workers import branch_worker, merged_views, new_worker
from forkcells.world.situations import situation_of
from forkcells.world.truth import amount_of, position_of


class Machine:
    """Does steps, and takes them back. Each path has a number of its own, the first one 0.

    `workers` has all functions that have begun and not ended by the numbers of their paths, `ready`
    is the list of those that do not wait, by ascending paths, and `last` is the first function when
    it has ended. `events` tells in their order what began and ended in the last step, as ("before",
    number, worker) and ("after", number, worker); `arrived` has those that came to a row in it, by
    ascending paths.
    """

    def __init__(self, program, called, situation, viewing, careless):
        self.code = program
        self.viewing = viewing
        self.careless = careless
        self.contents = situation.rows
        self.workers = {}
        self.ready = []
        self.last = None
        self.events = []
        self.arrived = []
        self._flows = {function.called: flow_of(function) for function in program}
        self._paths = [()]
        self._above = [None]
        # The numbers of paths, by the numbers of the paths ahead of them and of the branches.
        self._below = {}
        # For each step the workers that it changed, as they were ahead of it, and the contents.
        self._history = []
        self._changed = {}
        self._codes = {}
        function = program[called]
        homes = {array: array for array, _ in function.start_frame.arrays}
        parameters = {**situation.positions, **situation.amounts}
        self._begin(0, new_worker(function, homes, situation.rows, parameters))
        if len(function) == 0:
            self._finish(0)
        self.arrived = list(self.workers)
        self.ready = list(self.workers)

    def path(self, number):
        """The path with a number."""
        return self._paths[number]

    def number_of(self, path):
        """The number of the path of a function that has begun and not ended, or None."""
        number = 0
        for branch in path:
            number = self._below.get((number, branch))
            if number is None:
                return None
        return number if number in self.workers else None

    def _branch(self, number, branch):
        """The number of the path of a branch."""
        key = (number, branch)
        if key not in self._below:
            self._below[key] = len(self._paths)
            self._paths.append(self._paths[number] + (branch,))
            self._above.append(number)
        return self._below[key]

    def look(self, number):
        """What a function that does not wait reads."""
        worker = self.workers[number]
        if self.viewing:
            return Look(worker, worker.views, self.careless)
        homes = worker.origin.homes
        return Look(worker, {array: self.contents[homes[array]] for array in homes}, self.careless)

    def answer(self, number):
        """What the next row of a function that does not wait asks."""
        return asked(self.look(number), self.code)

    def active_ones(self):
        """The numbers of those that are active, by ascending paths."""
        return [number for number in self.ready if self.answer(number).fault is None]

    def least_active(self):
        """The number of the least path of those that are active, or None."""
        for number in self.ready:
            if self.answer(number).fault is None:
                return number
        return None

    def stuck_tuples(self):
        """The ascending list of tuples (path, function, row, fault) of those that are stuck."""
        found = []
        for number in self.ready:
            fault = self.answer(number).fault
            if fault is not None:
                worker = self.workers[number]
                found.append((self._paths[number], worker.origin.function.called, worker.at, fault))
        return found

    def touched(self, number):
        """The ascending list of the cells (place, position, word) that a next row touches."""
        homes = self.workers[number].origin.homes
        return sorted({(homes[array], position, word) for array, position, word in self.answer(number).cells})

    def shown(self):
        """A dict from the arrays of the first function to what stands there, or what it sees there."""
        rows = self.contents
        if self.viewing:
            rows = self.workers[0].views if self.last is None else self.last.views
        return {array: rows[array] for array in self.contents}

    def end_situation(self):
        """The situation of the end frame of the first function, if it has ended, or None."""
        if self.last is None:
            return None
        frame = self.last.origin.function.end_frame
        worth = self.last.worth
        return situation_of(
            frame,
            {**self.last.origin.olds, **self.shown()},
            {word: worth[word] for word in frame.positions},
            {word: worth[word] for word in frame.amounts},
        )

    def do(self, number):
        """Does the step of a function that is active."""
        elder = self.contents
        index = self.ready.index(number)
        self._changed = {}
        self.events = []
        worker = self.workers[number]
        if worker.next_row()[0] == "fork":
            self._fork(number, worker)
        else:
            self._go_on(number, worker)
        # Branches are changed in their order, and a function that goes on again comes alone.
        live = [one for one in self._changed if one in self.workers]
        self.arrived = [one for one in live if self.workers[one].ended is None]
        # All of these lie where the path of the step lay.
        self.ready[index:index + 1] = self.arrived
        self._history.append((self._changed, elder))

    def _go_on(self, number, worker):
        """Does a row that is no fork."""
        row = worker.next_row()
        look = self.look(number)
        behind = self._behind(worker)
        if row[0] == "move":
            worker = worker.with_worth(row[1], position_of(worker.worth, row[2]))
        elif row[0] == "keep":
            worker = worker.with_worth(row[1], amount_of(look.contents, worker.worth, row[2]))
        elif row[0] == "write":
            content = amount_of(look.contents, worker.worth, row[4])
            worker = self._written(worker, row[1], position_of(worker.worth, row[2:4]), content)
        elif not asked(look, self.code).truth:
            behind = self._flows[worker.origin.function.called][worker.at][1]
        self._put(number, worker.gone_to(behind))
        if behind is None:
            self._finish(number)

    def _behind(self, worker):
        """The number of the row behind the next one, if this is no condition that is false."""
        return self._flows[worker.origin.function.called][worker.at][0]

    def _written(self, worker, array, position, content):
        """Writes a cell, into the place if it is shared; the worker that sees it."""
        if not self.viewing:
            home = worker.origin.homes[array]
            self.contents = {**self.contents, home: with_content(self.contents[home], position, content)}
        return worker.with_view(array, with_content(worker.views[array], position, content))

    def _fork(self, number, worker):
        """Begins the branches of a fork, and ends those without rows."""
        calls = worker.next_row()[1]
        contents = self.look(number).contents
        self._put(number, worker.waiting_for({}))
        for branch in range(len(calls)):
            callee = self.code[calls[branch][0]]
            self._begin(self._branch(number, branch), branch_worker(worker, callee, calls[branch], contents))
        for branch in range(len(calls)):
            if len(self.code[calls[branch][0]]) == 0:
                self._finish(self._branch(number, branch))

    def _begin(self, number, worker):
        self.events.append(("before", number, worker))
        self._put(number, worker)

    def _finish(self, number):
        """Ends a function, and those that wait for it as far as they end with it."""
        while True:
            worker = self.workers[number]
            self.events.append(("after", number, worker))
            self._put(number, None)
            if number == 0:
                self.last = worker
                return
            above = self._above[number]
            caller = self.workers[above]
            ended = {**caller.ended, self._paths[number][-1]: worker}
            if len(ended) < len(caller.next_row()[1]):
                self._put(above, caller.waiting_for(ended))
                return
            behind = self._behind(caller)
            self._put(above, caller.with_views(merged_views(caller, ended)).gone_to(behind))
            if behind is not None:
                return
            number = above

    def _put(self, number, worker):
        """Puts a worker there, or takes it away, and keeps what was there."""
        if number not in self._changed:
            self._changed[number] = self.workers.get(number)
        if worker is None:
            del self.workers[number]
        else:
            self.workers[number] = worker

    def take_back(self, many):
        """Takes so many steps back."""
        for _ in range(many):
            changed, self.contents = self._history.pop()
            for number in changed:
                if changed[number] is not None:
                    self.workers[number] = changed[number]
                elif number in self.workers:
                    del self.workers[number]
            self.last = None
        if many > 0:
            paths = sorted([self._paths[number] for number in self.workers if self.workers[number].ended is None])
            self.ready = [self.number_of(path) for path in paths]
            self.events = []
            self.arrived = []

    def memory(self):
        """What it is, to come back to without the steps that led there."""
        return (self.contents, dict(self.workers), list(self.ready), self.last)

    def come_back(self, memory):
        """Comes back to what it was."""
        contents, workers, ready, last = memory
        self.contents = contents
        self.workers = dict(workers)
        self.ready = list(ready)
        self.last = last
        self._history = []

    def moment(self):
        """What all that comes hangs on, in a careless sharing run, as a tuple of plain values."""
        codes = sorted([self._code(number) for number in self.workers])
        return (tuple(codes), tuple([self.contents[array] for array in self.contents]))

    def _code(self, number):
        """A number for a path with its function, its next row and its numbers."""
        worker = self.workers[number]
        frame = worker.origin.function.frame
        numbers = tuple([worker.worth[word] for word in frame.positions + frame.amounts])
        key = (number, worker.origin.function.called, worker.at, numbers)
        return self._codes.setdefault(key, len(self._codes))

    def become(self, other):
        """Becomes like another one, which goes on by itself."""
        self.come_back(other.memory())
        self.events = list(other.events)
        self.arrived = list(other.arrived)
        self._history = list(other._history)
        self._paths = list(other._paths)
        self._above = list(other._above)
        self._below = {key: other._below[key] for key in other._below}


def with_content(row, position, content):
    """A row with another cell."""
    return row[:position] + (content,) + row[position + 1:]

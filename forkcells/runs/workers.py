"""Workers: what each function that has begun and not ended has in a run."""

from forkcells.code.programs import terms_of_call
from forkcells.logic.putting import put_position
from forkcells.world.situations import situation_of
from forkcells.world.truth import amount_of, position_of


class Origin:
    """What stays as it is while a function runs: what it began with."""

    def __init__(self, function, homes, olds, rights):
        self.function = function
        # The arrays of the first function for which its arrays stand.
        self.homes = homes
        self.olds = olds
        self.rights = rights


class Worker:
    """A function at its next row, or at the fork for which it waits. It never changes.

    `worth` has the numbers of all its names but arrays, `views` the rows that it sees. `ended` is
    None, or a dict from the branches of its fork that have ended to what they were at the end.
    """

    def __init__(self, origin, at, worth, views, ended):
        self.origin = origin
        self.at = at
        self.worth = worth
        self.views = views
        self.ended = ended

    def gone_to(self, at):
        """The same at another row, without waiting."""
        return Worker(self.origin, at, self.worth, self.views, None)

    def waiting_for(self, ended):
        """The same, as it waits for a fork of which these branches have ended."""
        return Worker(self.origin, self.at, self.worth, self.views, ended)

    def with_worth(self, word, number):
        """The same with another number of a local."""
        return Worker(self.origin, self.at, {**self.worth, word: number}, self.views, self.ended)

    def with_view(self, array, row):
        """The same, where it sees another row."""
        return self.with_views({**self.views, array: row})

    def with_views(self, views):
        """The same, where it sees other rows."""
        return Worker(self.origin, self.at, self.worth, views, self.ended)

    def next_row(self):
        """Its next row, or the fork for which it waits."""
        return self.origin.function.row(self.at)

    def sight(self, frame):
        """The situation of the frame of its function, or of its start frame or end frame."""
        rows = {**self.views, **self.origin.olds}
        return situation_of(
            frame,
            {array: rows[array] for array, _ in frame.arrays},
            {word: self.worth[word] for word in frame.positions},
            {word: self.worth[word] for word in frame.amounts},
        )


def new_worker(function, homes, views, parameters):
    """A function that begins with these numbers of its parameters."""
    worth = {"": 0, **parameters}
    for word in function.places + function.numbers:
        worth[word] = 0
    for array, length in function.start_frame.arrays:
        worth[length] = len(views[array])
    olds = {told[3]: views[told[1]] for told in function.arrays if told[0] == "full"}
    rights = {}
    for told in function.arrays:
        rights[told[1]] = (position_of(worth, told[-2]), position_of(worth, told[-1]))
    return Worker(Origin(function, homes, olds, rights), 0 if len(function) > 0 else None, worth, views, None)


def branch_worker(worker, callee, call, contents):
    """A function that begins as a branch of a fork; cells for values are read in `contents`."""
    origin = worker.origin
    homes, views, parameters = {}, {}, {}
    for told, array in zip(callee.arrays, call[1]):
        homes[told[1]] = origin.homes[array]
        views[told[1]] = worker.views[array]
    for word, term in zip(callee.positions, call[2]):
        parameters[word] = position_of(worker.worth, term)
    for word, term in zip(callee.amounts, call[3]):
        parameters[word] = amount_of(contents, worker.worth, term)
    return new_worker(callee, homes, views, parameters)


def argument_rights(worker, callee, call):
    """The list of the rights to the arguments of a call, as pairs of integers."""
    terms = terms_of_call(worker.origin.function, callee, call)
    rights = []
    for told in callee.arrays:
        low, high = put_position(terms, told[-2]), put_position(terms, told[-1])
        rights.append((position_of(worker.worth, low), position_of(worker.worth, high)))
    return rights


def merged_views(worker, ended):
    """The views of a function whose fork ends: it sees what each branch sees in its rights to write."""
    views = dict(worker.views)
    calls = worker.next_row()[1]
    for branch in range(len(calls)):
        last = ended[branch]
        for told, array in zip(last.origin.function.arrays, calls[branch][1]):
            if told[0] == "full":
                views[array] = merged_row(views[array], last.views[told[1]], last.origin.rights[told[1]])
    return views


def merged_row(row, other, right):
    """A row with the cells of another one from the low of a right on and below its high."""
    low = min(max(right[0], 0), len(row))
    high = max(min(right[1], len(row)), low)
    return row[:low] + other[low:high] + row[high:]

"""What a call hands over, in terms of the beginning of a piece."""

from forkcells.logic.putting import put_position


class Argument:
    """An array that a call hands over: its branch and index, the array, the way, the right, the version.

    The version is None for an array to look.
    """

    def __init__(self, branch, index, array, way, right):
        self.branch = branch
        self.place = index
        self.array = array
        self.way = way
        self.right = right
        self.version = None


class Handing:
    """A call: the called function, its arguments, and terms for its positions, values and lengths."""

    def __init__(self, caller, callee, branch, arrays, positions, values):
        self.callee = callee
        self.terms = {}
        for word, term in zip(callee.positions + callee.amounts, positions + values):
            self.terms[word] = term
        for told, array in zip(callee.arrays, arrays):
            self.terms[told[2]] = (caller.frame.length_of(array), 0)
        self.handed = []
        for index in range(len(arrays)):
            told = callee.arrays[index]
            right = (put_position(self.terms, told[-2]), put_position(self.terms, told[-1]))
            self.handed.append(Argument(branch, index, arrays[index], told[0], right))

    def arrays_ahead(self, newest):
        """A dict from the arrays of the called function to what it gets of these newest ones."""
        found = {}
        for argument in self.handed:
            found[self.callee.arrays[argument.place][1]] = newest[argument.array]
        return found

    def arrays_behind(self, newest):
        """The same for the end of the branch, with its versions and its was names."""
        found = self.arrays_ahead(newest)
        for argument in self.handed:
            told = self.callee.arrays[argument.place]
            if argument.way == "full":
                found[told[1]] = argument.version
                found[told[3]] = newest[argument.array]
        return found


def full_ones(handings):
    """The full arguments of calls, in order."""
    return [argument for handing in handings for argument in handing.handed if argument.way == "full"]


def pairs_that_may_meet(handings):
    """The pairs of arguments of one array that are not both to look, the earlier one first."""
    told = [argument for handing in handings for argument in handing.handed]
    pairs = []
    for k in range(len(told)):
        for other in told[k + 1:]:
            if told[k].array == other.array and "full" in (told[k].way, other.way):
                pairs.append((told[k], other))
    return pairs

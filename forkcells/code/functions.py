"""Functions: parameters with rights, locals, rows, notes and contracts."""

from forkcells.base.frames import Frame, is_frame_content, is_name
from forkcells.base.integers import is_index
from forkcells.code.renaming import relabeled_rows
from forkcells.code.rows import Scope, are_rows, are_short, called_names, inner_loops, listed_rows
from forkcells.errors import InvalidFunction, InvalidName, InvalidNumber, UnknownName
from forkcells.logic.claims import renamed_claim
from forkcells.logic.forms import is_worded
from forkcells.solve.questions import are_claims

MAX_ROWS = 24
MAX_LOOPS = 4
MAX_INSIDE = 4
MAX_CLAIMS = 4
MAX_BRANCHES = 3
# How many there are at most of arrays, full ones, positions, values, places and numbers.
MOST_ARRAYS = 3
MOST_FULL = 2
MOST_POSITIONS = 4
MOST_VALUES = 3
MOST_LOCALS = 3
ARRAY_SIZES = {"full": 6, "look": 5}


class Function:
    """A function with its name, parameters, locals, rows and claims. It never changes."""

    def __init__(self, called, *, arrays=(), positions=(), values=(), places=(), numbers=(), rows=(), notes=(),
                 before=(), after=()):
        if not is_name(called):
            raise InvalidName("this is no name of a function")
        if not are_arrays(arrays) or not are_names(positions, MOST_POSITIONS) or not are_names(values, MOST_VALUES):
            raise InvalidFunction("these are no parameters")
        if not are_names(places, MOST_LOCALS) or not are_names(numbers, MOST_LOCALS):
            raise InvalidFunction("these are no locals")
        pairs = tuple([array[1:3] for array in arrays])
        olds = tuple([(array[3], array[2]) for array in arrays if array[0] == "full"])
        if not is_frame_content(pairs + olds, positions + places, values + numbers):
            raise InvalidFunction("the names do not make a frame")
        self._called = called
        self._arrays = arrays
        self._places = places
        self._numbers = numbers
        self._frame = Frame(pairs + olds, positions + places, values + numbers)
        self._start_frame = Frame(pairs, positions, values)
        self._end_frame = Frame(pairs + olds, positions, values)
        self._fill(rows, notes, before, after)

    def _fill(self, rows, notes, before, after):
        """Takes in the rows and claims."""
        start = self._start_frame
        for array in self._arrays:
            if not start.is_position_term(array[-2]) or not start.is_position_term(array[-1]):
                raise InvalidFunction("a right is no pair of position terms of the parameters")
        within = Frame(start.arrays, self._frame.positions, self._frame.amounts)
        full = [array[1] for array in self._arrays if array[0] == "full"]
        if not are_rows(Scope(within, full, self._places, self._numbers, MAX_BRANCHES), rows, MAX_INSIDE):
            raise InvalidFunction("these are no rows")
        self._rows = rows
        self._listed = tuple(listed_rows(rows))
        self._loops = tuple(inner_loops(rows, None, 0))
        self._conditions = tuple([row[1] for row in self._listed if row[0] == "while"])
        self._callees = called_names(rows)
        if len(self._listed) > MAX_ROWS or len(self._conditions) > MAX_LOOPS:
            raise InvalidFunction("these are too many rows or loops")
        if not are_notes(self._frame, notes) or len(notes) != len(self._conditions):
            raise InvalidFunction("these are no claims for each loop")
        if not are_few_claims(start, before) or not are_few_claims(self._end_frame, after):
            raise InvalidFunction("these are no claims for the contract")
        if not are_short((self._arrays, rows, notes, before, after)):
            raise InvalidFunction("an integer has more than forty digits")
        self._notes = notes
        self._before = before
        self._after = after

    @property
    def called(self):
        """The name of the function."""
        return self._called

    @property
    def arrays(self):
        """The arrays, as they were passed."""
        return self._arrays

    @property
    def positions(self):
        """The positions of the parameters."""
        return self._start_frame.positions

    @property
    def amounts(self):
        """The values of the parameters."""
        return self._start_frame.amounts

    @property
    def places(self):
        """The local positions."""
        return self._places

    @property
    def numbers(self):
        """The local values."""
        return self._numbers

    @property
    def rows(self):
        """The rows, with those in them."""
        return self._rows

    @property
    def notes(self):
        """The claims of each loop."""
        return self._notes

    @property
    def before(self):
        """The claims that it needs."""
        return self._before

    @property
    def after(self):
        """The claims that are true behind it."""
        return self._after

    @property
    def frame(self):
        """The frame of all its names."""
        return self._frame

    @property
    def start_frame(self):
        """The frame of its parameters."""
        return self._start_frame

    @property
    def end_frame(self):
        """The frame of its parameters and was names."""
        return self._end_frame

    @property
    def conditions(self):
        """The conditions of all loops."""
        return self._conditions

    @property
    def callees(self):
        """The ascending tuple of the names of the functions that its forks begin."""
        return self._callees

    def row(self, number):
        """The row with this number, with the rows in it."""
        if not is_index(number, len(self._listed)):
            raise InvalidNumber(number)
        return self._listed[number]

    def loop_of(self, number):
        """The number of the innermost loop in whose rows a row stands, or None."""
        if not is_index(number, len(self._listed)):
            raise InvalidNumber(number)
        return self._loops[number]

    def way_of(self, array):
        """Whether an array is a "full" or a "look" one."""
        return self._array(array)[0]

    def right_of(self, array):
        """The pair of the low and the high of the right to an array."""
        return self._array(array)[-2:]

    def _array(self, array):
        for told in self._arrays:
            if isinstance(array, str) and told[1] == array:
                return told
        raise UnknownName(array)

    def with_rows(self, rows, notes):
        """The function with these rows and notes."""
        return self._changed_to(self._called, rows, notes, self._before, self._after)

    def with_notes(self, loop, claims):
        """The function with other notes for a loop."""
        if not is_index(loop, len(self._notes)):
            raise InvalidNumber(loop)
        notes = self._notes[:loop] + (claims,) + self._notes[loop + 1:]
        return self._changed_to(self._called, self._rows, notes, self._before, self._after)

    def with_contract(self, before, after):
        """The function with another contract."""
        return self._changed_to(self._called, self._rows, self._notes, before, after)

    def called_as(self, called):
        """The function with another name."""
        return self._changed_to(called, self._rows, self._notes, self._before, self._after)

    def _changed_to(self, called, rows, notes, before, after):
        return Function(called, arrays=self._arrays, positions=self.positions, values=self.amounts,
                        places=self._places, numbers=self._numbers, rows=rows, notes=notes, before=before, after=after)

    def relabeled(self, names):
        """The function with other names of parameters, locals, lengths and was names."""
        target = self._frame.renamed(names)
        words = {"": ""}
        for word in self._frame.lengths + self._frame.positions + self._frame.amounts:
            words[word] = names.get(word, word)
        arrays = {array: names.get(array, array) for array, _ in self._frame.arrays}
        terms = {word: (words[word], 0) for word in words}
        headings = [relabeled_array(array, arrays, words) for array in self._arrays]
        many_positions, many_values = len(self.positions), len(self.amounts)
        return Function(
            self._called,
            arrays=tuple(headings),
            positions=target.positions[:many_positions],
            values=target.amounts[:many_values],
            places=target.positions[many_positions:],
            numbers=target.amounts[many_values:],
            rows=relabeled_rows(arrays, terms, self._rows),
            notes=tuple([relabeled_claims(self._frame, claims, names) for claims in self._notes]),
            before=relabeled_claims(self._start_frame, self._before, names),
            after=relabeled_claims(self._end_frame, self._after, names),
        )

    def __len__(self):
        return len(self._listed)

    def __iter__(self):
        return iter(self._listed)

    def __eq__(self, other):
        if not isinstance(other, Function):
            return False
        if self._called != other._called or self._arrays != other._arrays or self._frame != other._frame:
            return False
        # The frames tell all positions and values; these tell which of them are locals.
        if self._places != other._places or self._numbers != other._numbers:
            return False
        if self._rows != other._rows or self._notes != other._notes:
            return False
        return self._before == other._before and self._after == other._after

    def __str__(self):
        return f"{self._called}: {len(self._listed)} rows, {len(self._conditions)} loops"


def are_arrays(value):
    """Whether the value has the form of array parameters, whatever their names and terms are."""
    if not isinstance(value, tuple) or len(value) > MOST_ARRAYS:
        return False
    for array in value:
        if not is_worded(array) or ARRAY_SIZES.get(array[0], 0) != len(array):
            return False
    return len([array for array in value if array[0] == "full"]) <= MOST_FULL


def are_notes(frame, value):
    """Whether the value is a tuple of tuples of at most four claims."""
    if not isinstance(value, tuple):
        return False
    return len([claims for claims in value if not are_few_claims(frame, claims)]) == 0


def are_few_claims(frame, value):
    """Whether the value is a tuple of at most four claims."""
    return are_claims(frame, value) and len(value) <= MAX_CLAIMS


def are_names(value, most):
    """Whether the value is a tuple of at most so many names."""
    if not isinstance(value, tuple) or len(value) > most:
        return False
    return len([word for word in value if not is_name(word)]) == 0


def relabeled_array(array, arrays, words):
    """An array parameter with other names."""
    olds = array[3:-2]
    right = [(words[word], number) for word, number in array[-2:]]
    return (array[0], arrays[array[1]], words[array[2]]) + tuple([arrays[old] for old in olds]) + tuple(right)


def relabeled_claims(frame, claims, names):
    """Claims for a frame with other names."""
    own = {word: names[word] for word in names if word in frame}
    return tuple([renamed_claim(frame, claim, own) for claim in claims])

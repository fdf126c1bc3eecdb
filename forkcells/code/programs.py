"""Programs: functions whose forks begin one another."""

from forkcells.base.frames import is_name
from forkcells.base.integers import is_index
from forkcells.code.functions import Function
from forkcells.code.renaming import recalled_rows
from forkcells.errors import InvalidFunction, InvalidNumber, InvalidOperation, InvalidProgram, UnknownName
from forkcells.logic.putting import put_position

MAX_FUNCTIONS = 6


class Program:
    """One to six functions with different names, whose calls fit. It never changes."""

    def __init__(self, functions):
        if not are_functions(functions):
            raise InvalidProgram("this is no tuple of one to six functions with different names")
        table = {function.called: function for function in functions}
        for function in functions:
            if not do_calls_fit(table, function):
                raise InvalidProgram("a call does not fit the function that it begins")
        self._table = {called: table[called] for called in sorted(table)}
        self._functions = tuple([self._table[called] for called in self._table])
        self._names = tuple(list(self._table))

    @property
    def functions(self):
        """The functions, ascending by name."""
        return self._functions

    @property
    def names(self):
        """The ascending tuple of the names of the functions."""
        return self._names

    def callers(self, called):
        """The ascending tuple of the names of the functions whose forks begin this one."""
        self._require(called)
        return tuple([function.called for function in self._functions if called in function.callees])

    def needed(self, called):
        """The ascending tuple of the names of the functions to which forks lead, itself included."""
        self._require(called)
        reached = {called: True}
        left = [called]
        while len(left) > 0:
            for callee in self._table[left.pop()].callees:
                if callee not in reached:
                    reached[callee] = True
                    left.append(callee)
        return tuple(sorted(reached))

    def _require(self, called):
        if called not in self:
            raise UnknownName(called)

    def with_function(self, function):
        """The program with a function, in the place of the one with its name, if there is one."""
        if not isinstance(function, Function):
            raise InvalidFunction("this is no function")
        others = [elder for elder in self._functions if elder.called != function.called]
        return Program(tuple(others) + (function,))

    def without(self, called):
        """The program without a function."""
        self._require(called)
        return Program(tuple([function for function in self._functions if function.called != called]))

    def renamed(self, names):
        """The program with other names of functions, by a dict from some of them to names."""
        if not is_renaming_of(self._names, names):
            raise InvalidOperation("this does not give all functions different names")
        functions = []
        for function in self._functions:
            made = function.with_rows(recalled_rows(names, function.rows), function.notes)
            functions.append(made.called_as(names.get(function.called, function.called)))
        return Program(tuple(functions))

    def right_of_argument(self, called, row, branch, index):
        """The right to an array argument of a fork, as a pair of position terms of the function."""
        self._require(called)
        caller = self._table[called]
        if not is_index(row, len(caller)) or caller.row(row)[0] != "fork":
            raise InvalidNumber(row)
        calls = caller.row(row)[1]
        if not is_index(branch, len(calls)):
            raise InvalidNumber(branch)
        if not is_index(index, len(calls[branch][1])):
            raise InvalidNumber(index)
        callee = self._table[calls[branch][0]]
        terms = terms_of_call(caller, callee, calls[branch])
        low, high = callee.arrays[index][-2:]
        return (put_position(terms, low), put_position(terms, high))

    def __getitem__(self, called):
        if called not in self:
            raise UnknownName(called)
        return self._table[called]

    def __contains__(self, value):
        return isinstance(value, str) and value in self._table

    def __iter__(self):
        return iter(self._functions)

    def __len__(self):
        return len(self._functions)

    def __eq__(self, other):
        if not isinstance(other, Program):
            return False
        return self._functions == other._functions

    def __str__(self):
        return f"program of {len(self._functions)} functions, {many_rows(self._functions)} rows"


def many_rows(functions):
    """How many rows functions have together."""
    return sum([len(function) for function in functions])


def are_functions(value):
    """Whether the value is a tuple of one to six functions with different names."""
    if not isinstance(value, tuple) or not 1 <= len(value) <= MAX_FUNCTIONS:
        return False
    for function in value:
        if not isinstance(function, Function):
            return False
    return len({function.called for function in value}) == len(value)


def do_calls_fit(table, caller):
    """Whether all calls of a function fit the functions of a table."""
    for row in caller:
        if row[0] == "fork":
            for call in row[1]:
                if call[0] not in table or not does_call_fit(caller, table[call[0]], call):
                    return False
    return True


def does_call_fit(caller, callee, call):
    """Whether a call gives a function what it takes."""
    _, arrays, positions, values = call
    if len(arrays) != len(callee.arrays):
        return False
    if len(positions) != len(callee.positions) or len(values) != len(callee.amounts):
        return False
    lengths = {}
    for k in range(len(arrays)):
        way, _, length = callee.arrays[k][:3]
        if way == "full" and caller.way_of(arrays[k]) != "full":
            return False
        given = caller.frame.length_of(arrays[k])
        if lengths.get(length, given) != given:
            return False
        lengths[length] = given
    return True


def terms_of_call(caller, callee, call):
    """A dict from the positions and lengths of a function to the terms that a call gives them."""
    terms = {word: term for word, term in zip(callee.positions, call[2])}
    for array, told in zip(call[1], callee.arrays):
        terms[told[2]] = (caller.frame.length_of(array), 0)
    return terms


def is_renaming_of(words, names):
    """Whether `names` is a dict from some of the words to names that leaves all different."""
    if not isinstance(names, dict):
        return False
    for word in names:
        if not isinstance(word, str) or word not in words or not is_name(names[word]):
            return False
    return len({names.get(word, word) for word in words}) == len(words)

"""A desk: functions that are changed, with verdicts, and claims that go on to hold."""

from forkcells.base.integers import require_undo
from forkcells.code.functions import Function
from forkcells.code.programs import Program
from forkcells.desk.promises import is_promise, require_promises, verdict_of
from forkcells.errors import InvalidFunction, InvalidOperation, TooMany, UnknownName

MAX_FUNCTIONS = 6
MAX_CLAIMS = 8


class Table:
    """What a desk is behind a change: functions by ascending names, claims, and verdicts."""

    def __init__(self, functions, promises, told):
        self.held = functions
        self.demanded = promises
        self.judged = told


class Desk:
    """Functions and claims; at first there are none."""

    def __init__(self):
        # What it was and is, with what can be done again; the number of the table that it is now.
        self._tables = (Table({}, (), {}),)
        self._turn = 0
        self._now = self._tables[0]

    def _become(self, tables, turn):
        """Goes to another table, and tells the news."""
        elder = self._now
        self._tables = tables
        self._turn = turn
        self._now = tables[turn]
        return news_of(elder.judged, self._now.judged)

    def _change(self, functions, promises):
        """Goes on with these functions and claims, if all of these hold."""
        table = checked_table(self._now, functions, promises)
        return self._become(self._tables[:self._turn + 1] + (table,), self._turn + 1)

    def _require(self, called):
        if not isinstance(called, str) or called not in self._now.held:
            raise UnknownName(called)

    def put(self, functions):
        """Takes functions in, each in the place of the one with its name."""
        if not are_different_functions(functions):
            raise InvalidFunction("this is no tuple of functions with different names")
        held = dict(self._now.held)
        for function in functions:
            held[function.called] = function
        if len(held) > MAX_FUNCTIONS:
            raise TooMany(MAX_FUNCTIONS)
        return self._change(held, self._now.demanded)

    def take(self, name):
        """Takes a function away."""
        self._require(name)
        elder = self._now.held
        return self._change({called: elder[called] for called in elder if called != name}, self._now.demanded)

    def revise(self, name, change):
        """Has what `change` makes of a function in its place."""
        self._require(name)
        elder = self._now
        function = change(elder.held[name])
        if not isinstance(function, Function):
            raise InvalidFunction("this is no function")
        if function.called != name:
            raise InvalidOperation("the function must keep its name")
        self.put((function,))
        return news_of(elder.judged, self._now.judged)

    def demand(self, claim):
        """Demands that a claim holds from now on."""
        if not is_promise(claim) or claim in self._now.demanded:
            raise InvalidOperation("this is no claim that can be demanded")
        for called in claim[1:]:
            self._require(called)
        if len(self._now.demanded) == MAX_CLAIMS:
            raise TooMany(MAX_CLAIMS)
        return self._change(self._now.held, self._now.demanded + (claim,))

    def waive(self, claim):
        """Demands a claim no longer."""
        elder = self._now.demanded
        if claim not in elder:
            raise InvalidOperation("this claim is not demanded")
        return self._change(self._now.held, tuple([promise for promise in elder if promise != claim]))

    def undo(self, *, many=1):
        """Takes so many changes back."""
        require_undo(many, self._turn)
        return self._become(self._tables, self._turn - many)

    def redo(self, *, many=1):
        """Does so many changes again that were taken back."""
        require_undo(many, len(self._tables) - 1 - self._turn)
        return self._become(self._tables, self._turn + many)

    def during(self, call):
        """What a call with the desk returns; behind it the desk is as ahead of it."""
        tables, turn, now = self._tables, self._turn, self._now
        try:
            return call(self)
        finally:
            self._tables = tables
            self._turn = turn
            self._now = now

    def twin(self):
        """An independent copy, with the changes that can be taken back and done again."""
        other = Desk()
        other._become(self._tables, self._turn)
        return other

    def whole(self):
        """The program of the functions."""
        return program_of(self._now.held)

    def callers(self, called):
        """The ascending tuple of the names of the functions that fork this one."""
        self._require(called)
        return self.whole().callers(called)

    @property
    def names(self):
        """The ascending tuple of the names of the functions."""
        return tuple(list(self._now.held))

    @property
    def claims(self):
        """The tuple of the claims, in the order of their demands."""
        return self._now.demanded

    @property
    def verdicts(self):
        """The dict from the names of the functions to their verdicts."""
        return dict(self._now.judged)

    def __getitem__(self, name):
        if not isinstance(name, str) or name not in self._now.held:
            raise UnknownName(name)
        return self._now.held[name]

    def __contains__(self, value):
        if isinstance(value, str):
            return value in self._now.held
        return is_promise(value) and value in self._now.demanded

    def __len__(self):
        return len(self._now.held)

    def __iter__(self):
        return iter(self._now.held)

    def __eq__(self, other):
        if not isinstance(other, Desk):
            return False
        return self._now.held == other._now.held and self._now.demanded == other._now.demanded

    def __str__(self):
        return f"desk of {len(self._now.held)} functions, {len(self._now.demanded)} claims"


def are_different_functions(value):
    """Whether the value is a tuple of one or more functions with different names."""
    if not isinstance(value, tuple) or len(value) == 0:
        return False
    if len([function for function in value if not isinstance(function, Function)]) > 0:
        return False
    return len({function.called for function in value}) == len(value)


def program_of(functions):
    """The program of the functions of a table."""
    if len(functions) == 0:
        raise InvalidOperation("there are no functions")
    return Program(tuple([functions[called] for called in functions]))


def checked_table(elder, functions, promises):
    """The table with these functions and claims; an error if there is none."""
    functions = {called: functions[called] for called in sorted(functions)}
    told = {}
    if len(functions) > 0:
        program = program_of(functions)
        for called in functions:
            if is_judged_alike(elder.held, functions, called):
                told[called] = elder.judged[called]
            else:
                told[called] = verdict_of(program, called)
    require_promises(functions, told, promises)
    return Table(functions, promises, told)


def is_judged_alike(elder, functions, called):
    """Whether the verdict of a function stays: it hangs on the function, and on what it forks by their heads."""
    if called not in elder or elder[called] != functions[called]:
        return False
    for callee in functions[called].callees:
        if head_of(elder[callee]) != head_of(functions[callee]):
            return False
    return True


def head_of(function):
    """What others know of a function: its parameters with their rights, and its contract."""
    return (function.arrays, function.positions, function.amounts, function.before, function.after)


def news_of(elder, newer):
    """The ascending tuple of the pairs of a name and its new verdict, or None."""
    names = sorted({**elder, **newer})
    return tuple([(called, newer.get(called)) for called in names if elder.get(called) != newer.get(called)])

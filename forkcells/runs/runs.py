"""Runs of programs, step by step."""

from forkcells.base.integers import is_any_integer, require_undo
from forkcells.code.programs import Program
from forkcells.errors import InvalidNumber, InvalidOperation, InvalidProgram, InvalidSituation, UnknownName
from forkcells.runs.machine import Machine
from forkcells.world.situations import Situation

MOST_STEPS = 1000


class Run:
    """A run of a function of a program, which begins in a situation."""

    def __init__(self, program, called, situation, *, viewing=False, careless=False):
        require_beginning(program, called, situation)
        require_boolean(viewing)
        require_boolean(careless)
        self._program = program
        self._called = called
        self._situation = situation
        self._viewing = viewing
        self._careless = careless
        self._machine = Machine(program, called, situation, viewing, careless)
        self._schedule = []
        self._trail = []
        self._end = self._machine.end_situation()

    @property
    def program(self):
        """The program."""
        return self._program

    @property
    def active(self):
        """The ascending tuple of the paths of the functions that are active."""
        return tuple([self._machine.path(number) for number in self._machine.active_ones()])

    @property
    def waiting(self):
        """The ascending tuple of the paths of the functions that wait."""
        workers = self._machine.workers
        waiting = [number for number in workers if workers[number].ended is not None]
        return tuple(sorted([self._machine.path(number) for number in waiting]))

    @property
    def stuck(self):
        """The ascending tuple of tuples (path, function, row, fault) of those that are stuck."""
        return tuple(self._machine.stuck_tuples())

    @property
    def schedule(self):
        """The tuple of the paths of all steps."""
        return tuple(self._schedule)

    @property
    def trail(self):
        """The tuple of tuples (path, function, row) of all steps."""
        return tuple(self._trail)

    @property
    def places(self):
        """A dict from the arrays of the first function to what stands there, or what it sees there."""
        return self._machine.shown()

    @property
    def end(self):
        """The situation of the end frame of the first function, if the run is done, or None."""
        return self._end

    def is_over(self):
        """Whether nobody is active."""
        return self._machine.least_active() is None

    def is_done(self):
        """Whether the first function has ended."""
        return self._machine.last is not None

    def go(self, path):
        """Does a step of a function that is active; (path, function, row)."""
        number = active_number(self._machine, path)
        if number is None:
            raise InvalidOperation("this is not the path of a function that is active")
        return self._step(number)

    def _step(self, number):
        worker = self._machine.workers[number]
        path = self._machine.path(number)
        told = (path, worker.origin.function.called, worker.at)
        self._machine.do(number)
        self._schedule.append(path)
        self._trail.append(told)
        self._end = self._machine.end_situation()
        return told

    def go_on(self, *, most=100):
        """Does at most so many steps, each of the least active path; how many."""
        require_most(most)
        for many in range(most):
            number = self._machine.least_active()
            if number is None:
                return many
            self._step(number)
        return most

    def _number(self, path):
        number = self._machine.number_of(path) if is_path(path) else None
        if number is None:
            raise InvalidOperation("this is no path of a function that has begun and not ended")
        return number

    def row_at(self, path):
        """The name of a function and the number of its next row, or of the fork for which it waits."""
        worker = self._machine.workers[self._number(path)]
        return (worker.origin.function.called, worker.at)

    def sight(self, path):
        """The situation of the frame of a function, by what it sees."""
        worker = self._machine.workers[self._number(path)]
        return worker.sight(worker.origin.function.frame)

    def right_at(self, path, array):
        """The pair of integers of the right of a function to one of its arrays."""
        rights = self._machine.workers[self._number(path)].origin.rights
        if not isinstance(array, str) or array not in rights:
            raise UnknownName(array)
        return rights[array]

    def touches(self, path):
        """The ascending tuple of the cells (array, position, word) that the next row touches."""
        number = self._number(path)
        if self._machine.workers[number].ended is not None:
            raise InvalidOperation("a function that waits has no next row")
        return tuple(self._machine.touched(number))

    def undo(self, *, many=1):
        """Takes the last steps back, and returns their paths, the last one first."""
        require_undo(many, len(self._schedule))
        kept = len(self._schedule) - many
        undone = tuple(self._schedule[kept:][::-1])
        del self._schedule[kept:]
        del self._trail[kept:]
        self._machine.take_back(many)
        self._end = self._machine.end_situation()
        return undone

    def twin(self):
        """An equal run that goes on by itself."""
        other = Run(self._program, self._called, self._situation, viewing=self._viewing, careless=self._careless)
        other._machine.become(self._machine)
        other._schedule = list(self._schedule)
        other._trail = list(self._trail)
        other._end = self._end
        return other

    def __len__(self):
        return len(self._schedule)

    def __eq__(self, other):
        if not isinstance(other, Run):
            return False
        if self._program != other._program or self._called != other._called or self._situation != other._situation:
            return False
        if self._viewing != other._viewing or self._careless != other._careless:
            return False
        return self._schedule == other._schedule

    def __str__(self):
        return f"run of {self._called}: {len(self._schedule)} steps, {shown_state(self._machine)}"


def shown_state(machine):
    """How far a run is, as a text."""
    if machine.last is not None:
        return "done"
    many = len(machine.active_ones())
    return f"{many} active" if many > 0 else "over"


def machine_of(run):
    """The machine of a run, which nobody else changes."""
    return run._machine


def active_number(machine, value):
    """The number of the path of a function that is active, or None if the value is no such path."""
    number = machine.number_of(value) if is_path(value) else None
    if number is None or machine.workers[number].ended is not None:
        return None
    return number if machine.answer(number).fault is None else None


def is_path(value):
    """Whether the value is a tuple of integers."""
    if not isinstance(value, tuple):
        return False
    return len([number for number in value if not is_any_integer(number)]) == 0


def require_beginning(program, called, situation):
    """An error, if no run begins so."""
    if not isinstance(program, Program):
        raise InvalidProgram("this is no program")
    if called not in program:
        raise UnknownName(called)
    if not isinstance(situation, Situation) or situation.frame != program[called].start_frame:
        raise InvalidSituation("this is no situation of the start frame of the function")


def require_boolean(value):
    """An error, if it is neither True nor False."""
    if not isinstance(value, bool):
        raise InvalidOperation("this is neither True nor False")


def require_most(most):
    """An error, if it is no integer from 0 to 1000."""
    if not is_any_integer(most) or not 0 <= most <= MOST_STEPS:
        raise InvalidNumber(most)

"""Pieces of functions: from loop to loop, with their facts and questions."""

from forkcells.code.programs import Program
from forkcells.decide.follows import follows, require_small
from forkcells.errors import InvalidProgram, TooMany, UnknownName
from forkcells.pieces.sketch import Sketch
from forkcells.pieces.trails import trails_of

MAX_PIECES = 64
MAX_WRITES = 4
MAX_FORKS = 2


def pieces(program, called):
    """The tuple of all pieces of a function, by their beginnings and then by their answers."""
    require_called(program, called)
    trails = trails_of(program[called], MAX_PIECES + 1)
    if len(trails) > MAX_PIECES:
        raise TooMany(MAX_PIECES)
    return tuple([Piece(program, called, trail) for trail in trails])


class Piece:
    """A piece of a function. It never changes, and is made by `pieces` alone."""

    def __init__(self, program, called, trail):
        function = program[called]
        require_few_rows(function, trail.passed)
        self._program = program
        self._called = called
        self._trail = trail
        sketch = Sketch(program, function, trail)
        at_start = function.before if trail.first == -1 else function.notes[trail.first]
        sketch.given = [sketch.put(claim) for claim in at_start]
        self._claims = tuple(sketch.given)
        answers = trail.told
        for number in trail.passed:
            sketch.pass_row(number, answers)
            if function.row(number)[0] in ("if", "while"):
                answers = answers[1:]
        ask_goals(sketch, function, trail.last)
        self._frame = sketch.ground
        self._facts = tuple(sketch.given)
        self._names = {array: sketch.newest[array] for array in sorted([told[1] for told in function.arrays])}
        self._asked = tuple(sketch.asked)
        self._uses = tuple(sketch.uses)

    @property
    def program(self):
        """The program."""
        return self._program

    @property
    def called(self):
        """The name of the function."""
        return self._called

    @property
    def start(self):
        """The number of the loop at which it begins, or -1."""
        return self._trail.first

    @property
    def stop(self):
        """The number of the loop at which it ends, or -1."""
        return self._trail.last

    @property
    def answers(self):
        """The answers of the conditions on it, in order."""
        return self._trail.told

    @property
    def trail(self):
        """The numbers of its rows, in order."""
        return self._trail.passed

    @property
    def frame(self):
        """The frame of its claims, with the versions of arrays."""
        return self._frame

    @property
    def claims(self):
        """The claims with which it begins."""
        return self._claims

    @property
    def facts(self):
        """The claims with which it begins, and what its rows give."""
        return self._facts

    @property
    def names(self):
        """A dict from the arrays of the function to the names of their versions at its end."""
        return dict(self._names)

    def questions(self):
        """The tuple of the pairs of a kind and a question, in the order of its rows."""
        return self._asked

    def is_right(self):
        """Whether all of its questions follow."""
        for _, question in self._asked:
            require_small(question)
        for _, question in self._asked:
            if not follows(question):
                return False
        return True

    def __eq__(self, other):
        if not isinstance(other, Piece):
            return False
        if self._program != other._program or self._called != other._called:
            return False
        return self._trail.first == other._trail.first and self._trail.told == other._trail.told

    def __str__(self):
        return f"piece of {self._called} {shown_way(self._trail)}"


def uses_in(piece):
    """For each question of a piece (array, term) for a cell, (array, right) for an argument, or None."""
    return piece._uses


def shown_way(trail):
    """The text of a way."""
    first = "start" if trail.first == -1 else str(trail.first)
    last = "end" if trail.last == -1 else str(trail.last)
    return f"from {first} to {last}: {len(trail.passed)} rows"


def ask_goals(sketch, function, last):
    """Asks whether the claims at the end of a piece are true."""
    word = "after" if last == -1 else "note"
    goals = function.after if last == -1 else function.notes[last]
    for index in range(len(goals)):
        sketch.ask((word, index), [], sketch.put(goals[index]))


def require_called(program, called):
    """An error, if it is no program, or the name of none of its functions."""
    if not isinstance(program, Program):
        raise InvalidProgram("this is no program")
    if called not in program:
        raise UnknownName(called)


def require_few_rows(function, numbers):
    """An error, if there are too many writes or forks among the rows with these numbers."""
    words = [function.row(number)[0] for number in numbers]
    if words.count("write") > MAX_WRITES:
        raise TooMany(MAX_WRITES)
    if words.count("fork") > MAX_FORKS:
        raise TooMany(MAX_FORKS)

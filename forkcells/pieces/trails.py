"""The ways through the rows of a function, from one loop to the next one."""

from forkcells.runs.flow import flow_of


class Trail:
    """A way: where it begins and ends, the answers of its conditions, and the numbers of its rows."""

    def __init__(self, first, last, told, numbers):
        self.first = first
        self.last = last
        self.told = told
        self.passed = numbers


def trails_of(function, most):
    """The list of all ways through a function, by beginnings and then by answers, at most so many."""
    loops = loop_rows(function)
    walker = Walker(function, loops, most)
    walker.walk(-1, 0 if len(function) > 0 else None, (), ())
    for first in range(len(loops)):
        walker.ask(first, loops[first], (), ())
    return walker.found


def loop_rows(function):
    """The numbers of the rows that are loops, by the numbers of these."""
    return [number for number in range(len(function)) if function.row(number)[0] == "while"]


class Walker:
    """Goes all ways through a function, until it has found as many as are wanted."""

    def __init__(self, function, loops, most):
        self._words = [row[0] for row in function]
        self._flow = flow_of(function)
        self._loops = loops
        self._most = most
        self.found = []

    def walk(self, first, number, told, numbers):
        """Goes on at a row, or at the end if it is None, behind these answers and rows."""
        while number is not None and self._words[number] not in ("if", "while"):
            numbers = numbers + (number,)
            number = self._flow[number][0]
        if number is not None and self._words[number] == "if":
            self.ask(first, number, told, numbers)
        elif len(self.found) < self._most:
            last = -1 if number is None else self._loops.index(number)
            self.found.append(Trail(first, last, told, numbers))

    def ask(self, first, number, told, numbers):
        """Goes on behind a condition, with both answers."""
        for answer in (False, True):
            if len(self.found) < self._most:
                behind = self._flow[number][0 if answer else 1]
                self.walk(first, behind, told + (answer,), numbers + (number,))

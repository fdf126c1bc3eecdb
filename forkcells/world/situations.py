"""Situations: rows of arrays, positions and values."""

from forkcells.base.frames import Frame, is_of_kind, shown_words
from forkcells.base.integers import is_index, is_passed_integer
from forkcells.errors import (InvalidClaim, InvalidFrame, InvalidNumber, InvalidOperation,
                              InvalidSituation, InvalidTerm, UnknownName)
from forkcells.logic.claims import is_claim
from forkcells.world.truth import amount_of, cell_of, first_failure, is_true, position_of


class Situation:
    """A row for each array of a frame, an integer for each position and value. It never changes."""

    def __init__(self, frame, rows, positions, values):
        if not isinstance(frame, Frame):
            raise InvalidFrame("this is no frame")
        if not are_rows(frame, rows):
            raise InvalidSituation("these are no rows for the arrays")
        if not are_numbers(frame.positions, positions) or not are_numbers(frame.amounts, values):
            raise InvalidSituation("these are no integers for the positions and values")
        self._frame = frame
        self._fill(rows, positions, values)

    def _fill(self, rows, positions, values):
        frame = self._frame
        self._rows = {array: rows[array] for array in sorted(rows)}
        self._positions = {word: positions[word] for word in sorted(positions)}
        self._amounts = {word: values[word] for word in sorted(values)}
        self._lengths = {length: len(rows[array]) for array, length in frame.arrays}
        self._numbers = {"": 0, **self._lengths, **self._positions, **self._amounts}

    @property
    def frame(self):
        """The frame of the situation."""
        return self._frame

    @property
    def rows(self):
        """A dict from the arrays to their rows."""
        return dict(self._rows)

    @property
    def positions(self):
        """A dict from the positions to integers."""
        return dict(self._positions)

    @property
    def amounts(self):
        """A dict from the values to integers."""
        return dict(self._amounts)

    @property
    def lengths(self):
        """A dict from the lengths to integers."""
        return {word: self._lengths[word] for word in sorted(self._lengths)}

    def cell(self, array, position):
        """The cell of an array, or 0 outside."""
        if not is_of_kind(self._frame, array, "array"):
            raise UnknownName(array)
        if not is_passed_integer(position):
            raise InvalidNumber(position)
        return cell_of(self._rows[array], position)

    def position_at(self, term):
        """What a position term is."""
        if not self._frame.is_position_term(term):
            raise InvalidTerm("this is no position term of the frame")
        return position_of(self._numbers, term)

    def value_at(self, term):
        """What a value term is."""
        if not self._frame.is_value_term(term):
            raise InvalidTerm("this is no value term of the frame")
        return amount_of(self._rows, self._numbers, term)

    def holds(self, claim):
        """Whether the claim is true."""
        if not is_claim(self._frame, claim):
            raise InvalidClaim("this is no claim for the frame")
        return is_true(self._rows, self._numbers, claim)

    def failure(self, claim):
        """The first integers for the own names of an all that make it false, or None."""
        if not is_claim(self._frame, claim):
            raise InvalidClaim("this is no claim for the frame")
        if claim[0] != "all":
            raise InvalidOperation("only an all has own names")
        return first_failure(self._rows, self._numbers, claim)

    def with_cell(self, array, position, content):
        """The situation with another integer in a cell."""
        if not is_of_kind(self._frame, array, "array"):
            raise UnknownName(array)
        row = self._rows[array]
        if not is_index(position, len(row)):
            raise InvalidNumber(position)
        if not is_passed_integer(content):
            raise InvalidSituation("a cell has an integer")
        rows = {**self._rows, array: row[:position] + (content,) + row[position + 1:]}
        return situation_of(self._frame, rows, self._positions, self._amounts)

    def with_number(self, word, content):
        """The situation with another integer for a position or value."""
        known = is_of_kind(self._frame, word, "position")
        if not known and not is_of_kind(self._frame, word, "value"):
            raise UnknownName(word)
        if not is_passed_integer(content):
            raise InvalidSituation("positions and values are integers")
        positions, values = dict(self._positions), dict(self._amounts)
        if known:
            positions[word] = content
        else:
            values[word] = content
        return situation_of(self._frame, self._rows, positions, values)

    def for_frame(self, frame):
        """The situation for another frame, with the same rows and integers."""
        if not isinstance(frame, Frame):
            raise InvalidFrame("this is no frame")
        if not is_inside_frame(frame, self._frame):
            raise InvalidOperation("the frame has a name that stands for something else here")
        rows = {array: self._rows[array] for array, _ in frame.arrays}
        positions = {word: self._positions[word] for word in frame.positions}
        values = {word: self._amounts[word] for word in frame.amounts}
        return situation_of(frame, rows, positions, values)

    def __eq__(self, other):
        if not isinstance(other, Situation):
            return False
        if self._frame != other._frame or self._rows != other._rows:
            return False
        return self._positions == other._positions and self._amounts == other._amounts

    def __len__(self):
        return len([cell for array in self._rows for cell in self._rows[array]])

    def __str__(self):
        return " | ".join([
            shown_rows(self._frame.arrays, self._rows),
            shown_numbers(self._frame.positions, self._positions),
            shown_numbers(self._frame.amounts, self._amounts),
        ])


def situation_of(frame, rows, positions, values):
    """A situation with integers of any length, as those that are returned can have them."""
    blank = {array: () for array, _ in frame.arrays}
    noughts = {word: 0 for word in frame.positions}
    made = Situation(frame, blank, noughts, {word: 0 for word in frame.amounts})
    made._fill(rows, positions, values)
    return made


def numbers_of(situation):
    """A dict from "", lengths, positions and values to integers."""
    return dict(situation._numbers)


def shown_rows(arrays, rows):
    """The text of rows, in the order of the arrays."""
    texts = [shown_words([str(cell) for cell in rows[array]]) for array, _ in arrays]
    return shown_words([f"{arrays[k][0]}={texts[k]}" for k in range(len(texts))])


def shown_numbers(words, numbers):
    """The text of the integers of names, in their order."""
    return shown_words([f"{word}={numbers[word]}" for word in words])


def is_table(value, words):
    """Whether the value is a dict from exactly these names."""
    if not isinstance(value, dict) or len(value) != len(words):
        return False
    for word in words:
        if word not in value:
            return False
    return True


def are_numbers(words, value):
    """Whether the value is a dict from exactly these names to integers."""
    if not is_table(value, words):
        return False
    for word in words:
        if not is_passed_integer(value[word]):
            return False
    return True


def are_rows(frame, value):
    """Whether the value is a dict from all arrays to rows, where lengths that are one are equal."""
    if not is_table(value, [array for array, _ in frame.arrays]):
        return False
    many = {}
    for array, length in frame.arrays:
        row = value[array]
        if not isinstance(row, tuple) or many.get(length, len(row)) != len(row):
            return False
        many[length] = len(row)
        for cell in row:
            if not is_passed_integer(cell):
                return False
    return True


def is_inside_frame(frame, other):
    """Whether all names of a frame stand for the same in the other one."""
    for array, length in frame.arrays:
        if not is_of_kind(other, array, "array") or other.length_of(array) != length:
            return False
    for word in frame.positions:
        if not is_of_kind(other, word, "position"):
            return False
    for word in frame.amounts:
        if not is_of_kind(other, word, "value"):
            return False
    return True

"""Questions: whether a claim follows from others."""

from forkcells.base.frames import Frame
from forkcells.base.integers import is_index
from forkcells.errors import (InvalidClaim, InvalidFrame, InvalidNumber, InvalidOperation,
                              InvalidQuestion, InvalidSituation)
from forkcells.logic.claims import is_claim
from forkcells.solve.laying import drawn_together, laid_row
from forkcells.solve.members import greatest_number, members_of, negative_alls, new_positions
from forkcells.world.situations import Situation, numbers_of, situation_of
from forkcells.world.truth import first_failure, is_true

MAX_GIVEN = 40


class Question:
    """Given claims and a wanted one for a frame. It never changes."""

    def __init__(self, frame, given, wanted):
        if not isinstance(frame, Frame):
            raise InvalidFrame("this is no frame")
        if not are_claims(frame, given) or len(given) > MAX_GIVEN:
            raise InvalidQuestion("this is no tuple of at most forty claims")
        if not is_claim(frame, wanted):
            raise InvalidQuestion("what is wanted is no claim")
        self._frame = frame
        self._claims = given
        self._goal = wanted
        self._negatives = negative_alls(given, wanted)
        self._fresh = new_positions(self._negatives)
        self._members = members_of(frame, given, wanted, self._fresh)
        self._reach = 2 * greatest_number(given, wanted) + 1
        many = len(frame.positions) + len(frame.lengths) + len(self._fresh)
        self._few = many * self._reach
        self._facts = known_lengths(frame) + given + (("not", wanted),)

    @property
    def frame(self):
        """The frame of the question."""
        return self._frame

    @property
    def claims(self):
        """The given claims."""
        return self._claims

    @property
    def goal(self):
        """The wanted claim."""
        return self._goal

    @property
    def members(self):
        """The ascending tuple of the members."""
        return self._members

    @property
    def fresh(self):
        """The new positions for the own names of negative alls."""
        return self._fresh

    @property
    def few(self):
        """How great lengths and positions of a situation that breaks it need to be."""
        return self._few

    @property
    def facts(self):
        """What is known where the question is broken."""
        return self._facts

    def is_broken_by(self, value):
        """Whether the value is a situation that breaks the question."""
        if not isinstance(value, Situation) or value.frame != self._frame:
            return False
        rows, numbers = value.rows, numbers_of(value)
        for claim in self._claims:
            if not is_true(rows, numbers, claim):
                return False
        return not is_true(rows, numbers, self._goal)

    def new_numbers(self, situation):
        """The integers for the new positions in a situation."""
        require_situation(self._frame, situation)
        rows, numbers = situation.rows, numbers_of(situation)
        found = []
        for claim in self._negatives:
            failure = first_failure(rows, numbers, claim)
            found.extend([0 for _ in claim[1]] if failure is None else list(failure))
        return tuple(found)

    def laid(self, situation):
        """The situation with rows that change at members only."""
        numbers = all_numbers(self, situation)
        return laid_situation(self, situation, numbers, numbers)

    def small(self, situation):
        """A situation with few cells that breaks the question, for one that does."""
        numbers = all_numbers(self, situation)
        if not self.is_broken_by(situation):
            raise InvalidOperation("the situation does not break the question")
        return laid_situation(self, situation, numbers, drawn_together(numbers, self._reach))

    def with_given(self, claim):
        """The question with one more given claim."""
        if not is_claim(self._frame, claim):
            raise InvalidClaim("this is no claim for the frame")
        if len(self._claims) == MAX_GIVEN:
            raise InvalidOperation("there are forty given claims")
        return Question(self._frame, self._claims + (claim,), self._goal)

    def without_given(self, place):
        """The question without the given claim with this index."""
        if not is_index(place, len(self._claims)):
            raise InvalidNumber(place)
        claims = self._claims[:place] + self._claims[place + 1:]
        return Question(self._frame, claims, self._goal)

    def wanting(self, claim):
        """The question with another wanted claim."""
        if not is_claim(self._frame, claim):
            raise InvalidClaim("this is no claim for the frame")
        return Question(self._frame, self._claims, claim)

    def __len__(self):
        return len(self._claims)

    def __eq__(self, other):
        if not isinstance(other, Question):
            return False
        if self._frame != other._frame:
            return False
        return self._claims == other._claims and self._goal == other._goal

    def __str__(self):
        return f"question of {len(self._claims)} given, {len(self._members)} members, few {self._few}"


def are_claims(frame, value):
    """Whether the value is a tuple of claims."""
    if not isinstance(value, tuple):
        return False
    for claim in value:
        if not is_claim(frame, claim):
            return False
    return True


def known_lengths(frame):
    """That all lengths of the frame are at least 0."""
    return tuple([("pos", "<=", ("", 0), (length, 0)) for length in frame.lengths])


def require_situation(frame, value):
    """An error, if it is no situation for an equal frame."""
    if not isinstance(value, Situation) or value.frame != frame:
        raise InvalidSituation("this is no situation for the frame of the question")


def all_numbers(question, situation):
    """A dict from "", positions, lengths and new positions to integers."""
    found = question.new_numbers(situation)
    numbers = {"": 0, **situation.lengths, **situation.positions}
    for k in range(len(found)):
        numbers[question.fresh[k]] = found[k]
    return numbers


def laid_situation(question, situation, elder, newer):
    """The situation with the positions and lengths of `newer`, laid anew."""
    rows = {}
    for array, length in question.frame.arrays:
        row = situation.rows[array]
        rows[array] = laid_row(row, question.members, elder, newer, newer[length])
    positions = {word: newer[word] for word in question.frame.positions}
    return situation_of(question.frame, rows, positions, situation.amounts)

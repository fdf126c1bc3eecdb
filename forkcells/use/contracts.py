"""Which functions may stand in for which: headings, and questions about contracts and rights."""

from forkcells.base.integers import is_index
from forkcells.code.functions import Function
from forkcells.code.rights import outside_right, within_claim
from forkcells.decide.follows import breaking, follows, paper
from forkcells.errors import InvalidFunction, InvalidOperation
from forkcells.logic.putting import carried_claim, first_own, put_position
from forkcells.solve.questions import Question
from forkcells.solve.trees import is_tree


def headings_alike(one, other):
    """Whether two functions have like headings."""
    require_functions(one, other)
    if [told[0] for told in one.arrays] != [told[0] for told in other.arrays]:
        return False
    if shared_lengths(one) != shared_lengths(other):
        return False
    return len(one.positions) == len(other.positions) and len(one.amounts) == len(other.amounts)


def contract_questions(one, other):
    """The tuple of the pairs of a kind and a question of the three rows."""
    if not headings_alike(one, other):
        raise InvalidOperation("the headings of the functions are not alike")
    crossing = Crossing(one, other)
    asked = []
    for index in range(len(one.before)):
        wanted = crossing.put(other.start_frame, one.before[index])
        asked.append((("before", index), Question(other.start_frame, other.before, wanted)))
    for index in range(len(one.arrays)):
        right = other.right_of(other.arrays[index][1])
        wanted = within_claim(crossing.put_right(index), right)
        asked.append((("right", index), Question(other.start_frame, other.before, wanted)))
    given = known_behind(crossing, one, other)
    for index in range(len(other.after)):
        asked.append((("after", index), Question(other.end_frame, given, other.after[index])))
    return tuple(asked)


def stands_in(one, other):
    """Whether the first function may stand in for the second one."""
    if not headings_alike(one, other):
        return False
    asked = contract_questions(one, other)
    return first_falling(asked) is None


def standing_paper(one, other):
    """("stands", trees) for all questions, or ("falls", index, situation) with one that it breaks."""
    asked = contract_questions(one, other)
    index = first_falling(asked)
    if index is not None:
        return ("falls", index, breaking(asked[index][1]))
    return ("stands", tuple([paper(question)[1] for _, question in asked]))


def is_standing_paper(one, other, value):
    """Whether the value is such a paper."""
    asked = contract_questions(one, other)
    if not isinstance(value, tuple) or len(value) == 0 or not isinstance(value[0], str):
        return False
    if value[0] == "falls":
        if len(value) != 3 or not is_index(value[1], len(asked)):
            return False
        return asked[value[1]][1].is_broken_by(value[2])
    if value[0] != "stands" or len(value) != 2 or not isinstance(value[1], tuple):
        return False
    if len(value[1]) != len(asked):
        return False
    return len([k for k in range(len(asked)) if not is_tree(asked[k][1], value[1][k])]) == 0


class Crossing:
    """Puts claims and terms of one function in terms of another one with a like heading."""

    def __init__(self, one, other):
        self._arrays = {}
        self._terms = {}
        self._rights = []
        for told, goal in zip(one.arrays, other.arrays):
            self._arrays[told[1]] = goal[1]
            self._terms[told[2]] = (goal[2], 0)
            if told[0] == "full":
                self._arrays[told[3]] = goal[3]
            self._rights.append(told[-2:])
        for word, goal in zip(one.positions + one.amounts, other.positions + other.amounts):
            self._terms[word] = (goal, 0)

    def put(self, frame, claim):
        """A claim, for a frame of the other function."""
        return carried_to(frame, self._arrays, self._terms, claim)

    def put_right(self, index):
        """The right to an array, by its index."""
        low, high = self._rights[index]
        return (put_position(self._terms, low), put_position(self._terms, high))


def carried_to(frame, arrays, terms, claim):
    """A claim with names put, and own names that are fresh for the frame."""
    made = carried_claim(frame, arrays, terms, claim)
    if made is None:
        raise InvalidOperation("no own name is left")
    return made


def known_behind(crossing, one, other):
    """What is given where the first function has ended in the place of the second one."""
    frame = other.end_frame
    elder = {told[1]: told[3] for told in other.arrays if told[0] == "full"}
    given = [carried_to(frame, elder, {}, claim) for claim in other.before]
    own = first_own(frame, ())
    for index in range(len(other.arrays)):
        array = other.arrays[index][1]
        if array in elder:
            guard = outside_right(own, crossing.put_right(index))
            body = ("val", "==", (array, own, 0, 0), (elder[array], own, 0, 0))
            given.append(("all", (own,), guard, body))
    return tuple(given + [crossing.put(frame, claim) for claim in one.after])


def shared_lengths(function):
    """For each array the index of the first one with its length."""
    lengths = [told[2] for told in function.arrays]
    return [lengths.index(length) for length in lengths]


def first_falling(asked):
    """The index of the first of these questions that does not follow, or None."""
    for index in range(len(asked)):
        if not follows(asked[index][1]):
            return index
    return None


def require_functions(one, other):
    """An error, if one of these is no function."""
    for function in (one, other):
        if not isinstance(function, Function):
            raise InvalidFunction("this is no function")

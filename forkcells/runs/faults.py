"""What the next row of a function asks, its first fault, and whether its condition is true."""

from forkcells.code.rights import lies_within, meets
from forkcells.runs.workers import argument_rights
from forkcells.world.truth import amount_of, compares, position_of


class Look:
    """A function that looks at its arrays: what it reads there, and whether rights are asked."""

    def __init__(self, worker, contents, careless):
        self.worker = worker
        self.contents = contents
        self.careless = careless

    def fault_at(self, array, position):
        """The fault of a cell, or None."""
        if not 0 <= position < len(self.contents[array]):
            return ("outside", array)
        low, high = self.worker.origin.rights[array]
        if not self.careless and not low <= position < high:
            return ("right", array)
        return None


class Answer:
    """The cells that are asked up to a fault, as (array, position, word), the fault, and a truth."""

    def __init__(self, cells, fault, truth):
        self.cells = cells
        self.fault = fault
        self.truth = truth


def asked(look, program):
    """The answer for the next row; its truth counts only for a condition without a fault."""
    row = look.worker.next_row()
    if row[0] == "if" or row[0] == "while":
        return asked_by_claim(look, row[1])
    if row[0] == "keep":
        return asked_by_terms(look, [row[2]], None)
    if row[0] == "write":
        return asked_by_terms(look, [row[4]], row[1:4])
    if row[0] == "fork":
        return asked_by_fork(look, program, row[1])
    return Answer([], None, True)


def asked_by_terms(look, terms, written):
    """The answer for the cells of value terms, and for a cell (array, word, shift) that is written."""
    told = [(term[:3], "look") for term in terms if len(term) == 4]
    if written is not None:
        told.append((written, "write"))
    cells = []
    for (array, name, shift), word in told:
        position = position_of(look.worker.worth, (name, shift))
        fault = look.fault_at(array, position)
        if fault is not None:
            return Answer(cells, fault, False)
        cells.append((array, position, word))
    return Answer(cells, None, True)


def asked_by_claim(look, claim):
    """The answer for a condition, whose parts are asked as far as they are needed."""
    word = claim[0]
    if word == "pos":
        one, other = position_of(look.worker.worth, claim[2]), position_of(look.worker.worth, claim[3])
        return Answer([], None, compares(claim[1], one, other))
    if word == "val":
        answer = asked_by_terms(look, claim[2:], None)
        if answer.fault is not None:
            return answer
        one = amount_of(look.contents, look.worker.worth, claim[2])
        other = amount_of(look.contents, look.worker.worth, claim[3])
        return Answer(answer.cells, None, compares(claim[1], one, other))
    if word == "not":
        answer = asked_by_claim(look, claim[1])
        return Answer(answer.cells, answer.fault, not answer.truth)
    # One part decides: a false one of an and, a true one of an or.
    decisive = word == "or"
    cells = []
    for part in claim[1]:
        answer = asked_by_claim(look, part)
        cells.extend(list(answer.cells))
        if answer.fault is not None or answer.truth == decisive:
            return Answer(cells, answer.fault, answer.truth)
    return Answer(cells, None, not decisive)


def asked_by_fork(look, program, calls):
    """The answer for a fork: the cells of the values of its calls, and the rights that it hands over."""
    answer = asked_by_terms(look, [term for call in calls for term in call[3]], None)
    if answer.fault is not None or look.careless:
        return answer
    return Answer(answer.cells, fault_of_rights(look.worker, program, calls), True)


def fault_of_rights(worker, program, calls):
    """The first fault of the rights that are handed over, or None."""
    told = handed_over(worker, program, calls)
    for branch, index, array, _, right in told:
        if not lies_within(right, worker.origin.rights[array]):
            return ("within", branch, index)
    for k in range(len(told)):
        for other in told[k + 1:]:
            if does_clash(told[k], other):
                return ("meet",) + told[k][:2] + other[:2]
    return None


def handed_over(worker, program, calls):
    """The list of all arguments that are arrays, as tuples (branch, index, array, way, right)."""
    told = []
    for branch in range(len(calls)):
        callee = program[calls[branch][0]]
        rights = argument_rights(worker, callee, calls[branch])
        for index in range(len(rights)):
            told.append((branch, index, calls[branch][1][index], callee.arrays[index][0], rights[index]))
    return told


def does_clash(one, other):
    """Whether two arguments are one array, not both to look, and their rights meet."""
    array, way, right = one[2:]
    other_array, other_way, other_right = other[2:]
    if array != other_array or (way == "look" and other_way == "look"):
        return False
    return meets(right, other_right)

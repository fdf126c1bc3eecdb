"""What is known on a piece, row by row, and what is asked there."""

from forkcells.code.rights import apart_claim, in_right, outside_right, usable_claim, within_claim
from forkcells.errors import InvalidOperation, InvalidQuestion
from forkcells.logic.parts import cells_in
from forkcells.logic.putting import carried_claim, first_own, put_claim, put_position, put_value
from forkcells.pieces.calls import Handing, full_ones, pairs_that_may_meet
from forkcells.pieces.versions import piece_frame
from forkcells.solve.questions import Question


class Sketch:
    """Goes along a way, and puts all terms in terms of its beginning.

    `newest` has the newest versions of arrays, and what was names stand for; `given` are the claims
    and facts so far, `asked` the pairs of a kind and a question. For each of these `uses` has the
    array that it is about, with a term of a cell or a pair of terms of a right, or None.
    """

    def __init__(self, program, function, trail):
        self._program = program
        self._function = function
        self.ground, self._spare = piece_frame(program, function, trail)
        self.newest = {array: array for array, _ in function.frame.arrays}
        # Locals by the terms that they were given last.
        self._terms = {}
        self._own = first_own(function.frame, ())
        self.given = []
        self.asked = []
        self.uses = []
        if trail.first == -1:
            self.newest.update({told[3]: told[1] for told in function.arrays if told[0] == "full"})
            self._terms = {word: ("", 0) for word in function.places + function.numbers}

    def put(self, claim):
        """A claim of the function, as it is now."""
        return self._put_in(self.newest, self._terms, claim)

    def _put_in(self, arrays, terms, claim):
        made = carried_claim(self.ground, arrays, terms, claim)
        if made is None:
            raise InvalidOperation("no own name is left")
        return made

    def ask(self, kind, more, wanted, use=None):
        """Asks a question, with what is known and these claims more."""
        self.uses.append(use)
        try:
            self.asked.append((kind, Question(self.ground, tuple(self.given + more), wanted)))
        except InvalidQuestion:
            raise InvalidOperation("a question has too many given claims, or what is no claim")

    def pass_row(self, number, answers):
        """Goes over a row; the first of the answers is that of its condition, if it has one."""
        row = self._function.row(number)
        if row[0] == "move":
            self._terms[row[1]] = put_position(self._terms, row[2])
        elif row[0] == "keep":
            self._ask_cells(number, [row[2]])
            self._terms[row[1]] = put_value(self.newest, self._terms, row[2])
        elif row[0] == "write":
            self._ask_cells(number, [row[4], row[1:4]])
            self._write(row[1], put_position(self._terms, row[2:4]), row[4])
        elif row[0] == "fork":
            self._fork(number, row[1])
        else:
            self._ask_condition(number, row[1], [])
            fact = put_claim(self.newest, self._terms, row[1])
            self.given.append(fact if answers[0] else ("not", fact))

    def _ask_cells(self, number, terms):
        """Asks for the cells among terms whether they can be used; a written one has no number."""
        for term in terms:
            if len(term) > 2:
                self._ask_usable(number, term, [])

    def _ask_usable(self, number, cell, more):
        right = self._function.right_of(cell[0])
        term = put_position(self._terms, cell[1:3])
        self.ask(("inside", number), more, usable_claim(self.ground, cell[0], right, term), (cell[0], term))

    def _ask_condition(self, number, claim, more):
        """Asks for the cells of a condition, where these parts of it are true, too."""
        if claim[0] == "not":
            self._ask_condition(number, claim[1], more)
        elif claim[0] == "and" or claim[0] == "or":
            ahead = list(more)
            for part in claim[1]:
                self._ask_condition(number, part, ahead)
                put = put_claim(self.newest, self._terms, part)
                ahead.append(put if claim[0] == "and" else ("not", put))
        else:
            for cell in cells_in(claim):
                self._ask_usable(number, cell, more)

    def _write(self, array, term, value):
        elder, own = self.newest[array], (self._own, 0)
        new = self._spare.pop(0)
        word, number = term
        self.given.append(("val", "==", (new,) + term + (0,), put_value(self.newest, self._terms, value)))
        beside = (("pos", "<=", own, (word, number - 1)), ("pos", "<=", (word, number + 1), own))
        self.given.append(self._alike(("or", beside), new, elder))
        self.newest[array] = new

    def _alike(self, guard, one, other):
        """That two versions are equal where the guard is true."""
        own = self._own
        return ("all", (own,), guard, ("val", "==", (one, own, 0, 0), (other, own, 0, 0)))

    def _fork(self, number, calls):
        self._ask_cells(number, [term for call in calls for term in call[3]])
        handings = []
        for branch in range(len(calls)):
            called, arrays, positions, values = calls[branch]
            positions = tuple([put_position(self._terms, term) for term in positions])
            values = tuple([put_value(self.newest, self._terms, term) for term in values])
            handings.append(Handing(self._function, self._program[called], branch, arrays, positions, values))
        self._ask_fork(number, handings)
        self._pass_fork(handings)

    def _ask_fork(self, number, handings):
        for handing in handings:
            for argument in handing.handed:
                wanted = within_claim(argument.right, self._function.right_of(argument.array))
                use = (argument.array, argument.right)
                self.ask(("within", number, argument.branch, argument.place), [], wanted, use)
        for one, other in pairs_that_may_meet(handings):
            kind = ("apart", number, one.branch, one.place, other.branch, other.place)
            self.ask(kind, [], apart_claim(one.right, other.right))
        for branch in range(len(handings)):
            arrays, terms = handings[branch].arrays_ahead(self.newest), handings[branch].terms
            claims = handings[branch].callee.before
            for index in range(len(claims)):
                self.ask(("before", number, branch, index), [], self._put_in(arrays, terms, claims[index]))

    def _pass_fork(self, handings):
        given = full_ones(handings)
        for argument in given:
            argument.version = self._spare.pop(0)
        for handing in handings:
            for argument in full_ones([handing]):
                guard = outside_right(self._own, argument.right)
                self.given.append(self._alike(guard, argument.version, self.newest[argument.array]))
            arrays = handing.arrays_behind(self.newest)
            for claim in handing.callee.after:
                self.given.append(self._put_in(arrays, handing.terms, claim))
        for told in list(self._function.arrays):
            self._join(told[1], [argument for argument in given if argument.array == told[1]])

    def _join(self, array, given):
        """The version of an array behind a fork in which these full arguments are of it."""
        if len(given) == 0:
            return
        new = self._spare.pop(0)
        for argument in given:
            guard = in_right(self._own, argument.right)
            self.given.append(self._alike(guard, new, argument.version))
        outsides = tuple([outside_right(self._own, argument.right) for argument in given])
        self.given.append(self._alike(("and", outsides), new, self.newest[array]))
        self.newest[array] = new

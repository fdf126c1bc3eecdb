"""Rights that fit: which lows and highs the rows of a function need."""

from forkcells.code.functions import Function
from forkcells.code.rights import is_any_position_term, is_pair
from forkcells.code.rows import are_short
from forkcells.decide.follows import follows, require_small
from forkcells.errors import InvalidFunction, InvalidOperation, UnknownName
from forkcells.pieces.pieces import pieces, require_called, uses_in
from forkcells.solve.questions import Question

MOST_CANDIDATES = 8
SIDES = ("low", "high")


def with_rights(function, rights):
    """The function with other rights to some of its arrays."""
    if not isinstance(function, Function):
        raise InvalidFunction("this is no function")
    if not is_table_of(function, rights) or len([array for array in rights if not is_any_right(rights[array])]) > 0:
        raise InvalidOperation("this does not give arrays of the function pairs of position terms")
    return Function(
        function.called,
        arrays=tuple([told[:-2] + rights.get(told[1], told[-2:]) for told in function.arrays]),
        positions=function.positions,
        values=function.amounts,
        places=function.places,
        numbers=function.numbers,
        rows=function.rows,
        notes=function.notes,
        before=function.before,
        after=function.after,
    )


def fitting_lows(program, called, array, candidates):
    """The ascending tuple of the indices of the lows that fit."""
    return fitting_ones(program, called, array, candidates, "low")


def fitting_highs(program, called, array, candidates):
    """The ascending tuple of the indices of the highs that fit."""
    return fitting_ones(program, called, array, candidates, "high")


def is_fitting_right(program, called, array, value):
    """Whether the value is a pair of a low and a high that fit."""
    require_array(program, called, array)
    made = foreign_pieces(program, called)
    if not is_pair(value) or not are_candidates(program[called], value):
        return False
    # Those of both sides are asked for ahead of all answers.
    lows = fit_questions(made, array, value[:1], "low")
    highs = fit_questions(made, array, value[1:], "high")
    return do_all_follow(lows[0]) and do_all_follow(highs[0])


def narrowed(program, called, candidates):
    """The program in which the function has the narrowest of these rights that fit."""
    require_called(program, called)
    function = program[called]
    if not is_table_of(function, candidates):
        raise InvalidOperation("this does not give candidates for arrays of the function")
    for array in candidates:
        told = candidates[array]
        if not is_pair(told) or not are_candidates(function, told[0]) or not are_candidates(function, told[1]):
            raise InvalidOperation("these are no tuples of one to eight candidates")
    fitting = fitting_terms(foreign_pieces(program, called), function, candidates)
    for array in fitting:
        if len(fitting[array][0]) == 0 or len(fitting[array][1]) == 0:
            raise InvalidOperation("no low or no high fits")
    for array in fitting:
        for terms in fitting[array]:
            require_comparable(function, terms)
    rights = {}
    for array in fitting:
        lows, highs = fitting[array]
        rights[array] = (narrowest(function, lows, "low"), narrowest(function, highs, "high"))
    return program.with_function(with_rights(function, rights))


def is_table_of(function, value):
    """Whether the value is a dict from some arrays of the function."""
    if not isinstance(value, dict):
        return False
    names = [told[1] for told in function.arrays]
    return len([array for array in value if array not in names]) == 0


def is_any_right(value):
    """Whether the value is a pair of position terms of any frame."""
    return is_pair(value) and is_any_position_term(value[0]) and is_any_position_term(value[1])


def are_candidates(function, value):
    """Whether the value is a tuple of one to eight candidates."""
    if not isinstance(value, tuple) or not 1 <= len(value) <= MOST_CANDIDATES:
        return False
    wrong = [term for term in value if not function.start_frame.is_position_term(term) or not are_short(term)]
    return len(wrong) == 0


def require_array(program, called, array):
    """An error, if it is no array of a function of the program."""
    require_called(program, called)
    if not isinstance(array, str) or array not in [told[1] for told in program[called].arrays]:
        raise UnknownName(array)


def foreign_pieces(program, called):
    """The pieces of a function that does not fork itself, or an error."""
    if called in program[called].callees:
        raise InvalidOperation("the function forks itself")
    return pieces(program, called)


def fitting_ones(program, called, array, candidates, side):
    """The ascending tuple of the indices of the candidates for a side that fit."""
    require_array(program, called, array)
    if not are_candidates(program[called], candidates):
        raise InvalidOperation("this is no tuple of one to eight candidates")
    asked = fit_questions(foreign_pieces(program, called), array, candidates, side)
    return tuple([index for index in range(len(asked)) if do_all_follow(asked[index])])


def fitting_terms(made, function, candidates):
    """A dict from the arrays that have candidates to the lists of the lows and of the highs that fit."""
    arrays = [told[1] for told in function.arrays if told[1] in candidates]
    asked = {}
    for array in arrays:
        for k in range(2):
            asked[(array, k)] = fit_questions(made, array, candidates[array][k], SIDES[k])
    fitting = {}
    for array in arrays:
        fitting[array] = [those_that_fit(candidates[array][k], asked[(array, k)]) for k in range(2)]
    return fitting


def those_that_fit(candidates, asked):
    """The list of the candidates whose questions follow."""
    return [candidates[index] for index in range(len(asked)) if do_all_follow(asked[index])]


def fit_questions(made, array, candidates, side):
    """For each candidate the list of its questions; an error if one is too great to be decided."""
    found = []
    for term in candidates:
        asked = []
        for piece in made:
            for use, told in zip(uses_in(piece), piece.questions()):
                if use is not None and use[0] == array:
                    asked.append(told[1].wanting(fit_claim(use[1], term, side)))
        for question in asked:
            require_small(question)
        found.append(asked)
    return found


def fit_claim(use, term, side):
    """That a cell at a term, or all of a right, lies on the right side of a candidate."""
    if not isinstance(use[0], tuple):
        return ("pos", "<=", term, use) if side == "low" else ("pos", "<", use, term)
    low, high = use
    inside = ("pos", "<=", term, low) if side == "low" else ("pos", "<=", high, term)
    return ("or", (("pos", "<=", high, low), inside))


def do_all_follow(asked):
    """Whether all questions follow."""
    for question in asked:
        if not follows(question):
            return False
    return True


def order_question(function, one, other):
    """Whether a term is at most another one wherever the function can begin."""
    return Question(function.start_frame, function.before, ("pos", "<=", one, other))


def require_comparable(function, terms):
    """An error, if a question that compares two of the terms is too great to be decided."""
    for k in range(len(terms)):
        for other in terms[k + 1:]:
            require_small(order_question(function, terms[k], other))


def narrowest(function, terms, side):
    """One of the terms that makes a right narrow: no other one makes it narrower everywhere."""
    for term in terms:
        if len([other for other in terms if is_narrower(function, other, term, side)]) == 0:
            return term
    return None


def is_narrower(function, one, other, side):
    """Whether the first term makes a right nowhere wider than the second one, and somewhere narrower."""
    if one == other:
        return False
    less, more = (other, one) if side == "low" else (one, other)
    return follows(order_question(function, less, more)) and not follows(order_question(function, more, less))

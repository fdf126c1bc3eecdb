"""Which functions and programs are kept, and papers that show it."""

from forkcells.base.integers import is_index
from forkcells.code.programs import Program
from forkcells.decide.follows import breaking, follows, paper, require_small
from forkcells.errors import InvalidProgram
from forkcells.pieces.pieces import pieces
from forkcells.solve.trees import is_tree

# The kinds of questions that tell whether the rights of a fork fit.
RIGHTS = ("within", "apart")


def is_kept(program, called):
    """Whether all questions of all pieces of a function follow."""
    return len(first_broken(small_questions([pieces(program, called)]))) == 0


def is_program_kept(program):
    """Whether all functions are kept."""
    return len(first_broken(small_questions(all_pieces(program)))) == 0


def broken_questions(program, called):
    """The ascending tuple of the pairs of a piece and a question that is broken, by their indices."""
    asked = small_questions([pieces(program, called)])
    return tuple([(piece, index) for _, piece, index, _, question in asked if not follows(question)])


def kinds_broken(program):
    """A dict from the names of all functions to the first words of the kinds of their broken questions."""
    asked = small_questions(all_pieces(program))
    found = {called: [] for called in program.names}
    for called, _, _, kind, question in asked:
        if kind[0] not in found[called] and not follows(question):
            found[called].append(kind[0])
    return {called: tuple(sorted(found[called])) for called in found}


def kept_paper(program):
    """("kept", trees) for all questions, or ("broken", ..) with a situation that breaks one."""
    told = all_pieces(program)
    broken = first_broken(small_questions(told))
    if len(broken) > 0:
        called, piece, index, _, question = broken
        return ("broken", called, piece, index, breaking(question))
    return ("kept", {made[0].called: tuple([trees_of(piece) for piece in made]) for made in told})


def is_kept_paper(program, value):
    """Whether the value is such a paper."""
    told = all_pieces(program)
    if not isinstance(value, tuple) or len(value) == 0 or not isinstance(value[0], str):
        return False
    if value[0] == "kept":
        return len(value) == 2 and is_keeping(told, value[1])
    return value[0] == "broken" and len(value) == 5 and is_breaking(told, value)


def is_orderless(program, called):
    """Whether all questions about the rights that forks hand over follow."""
    told = [pieces(program, called)]
    return len(first_broken(small_ones([asked for asked in questions_of(told) if asked[3][0] in RIGHTS]))) == 0


def all_pieces(program):
    """The list of the pieces of all functions, ascending by names."""
    if not isinstance(program, Program):
        raise InvalidProgram("this is no program")
    return [pieces(program, called) for called in program.names]


def questions_of(told):
    """The list of all questions of pieces, as tuples (called, piece, index, kind, question)."""
    found = []
    for made in told:
        for place in range(len(made)):
            asked = made[place].questions()
            for index in range(len(asked)):
                found.append((made[place].called, place, index) + asked[index])
    return found


def small_questions(told):
    """The same; an error if one of them is too great to be decided."""
    return small_ones(questions_of(told))


def small_ones(asked):
    """These questions; an error if one of them is too great to be decided."""
    for told in asked:
        require_small(told[4])
    return asked


def first_broken(asked):
    """The first of these questions that is broken, or an empty tuple."""
    for told in asked:
        if not follows(told[4]):
            return told
    return ()


def trees_of(piece):
    """The tuple of trees of all questions of a piece; they follow."""
    return tuple([paper(question)[1] for _, question in piece.questions()])


def is_keeping(told, value):
    """Whether the value has a tree for each question of each piece."""
    if not isinstance(value, dict) or len(value) != len(told):
        return False
    for made in told:
        called = made[0].called
        if called not in value or not are_trees_of_all(made, value[called]):
            return False
    return True


def are_trees_of_all(made, value):
    """Whether the value has a tuple of trees for each of the pieces."""
    if not isinstance(value, tuple) or len(value) != len(made):
        return False
    for place in range(len(made)):
        if not are_trees([question for _, question in made[place].questions()], value[place]):
            return False
    return True


def are_trees(asked, value):
    """Whether the value is a tuple of trees of these questions, in order."""
    if not isinstance(value, tuple) or len(value) != len(asked):
        return False
    for index in range(len(asked)):
        if not is_tree(asked[index], value[index]):
            return False
    return True


def is_breaking(told, value):
    """Whether the value names a question, and a situation that breaks it."""
    _, called, piece, index, situation = value
    for made in told:
        if isinstance(called, str) and made[0].called == called:
            if not is_index(piece, len(made)) or not is_index(index, len(made[piece].questions())):
                return False
            return made[piece].questions()[index][1].is_broken_by(situation)
    return False

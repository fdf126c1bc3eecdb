"""The versions of arrays that the rows of a way make, and their names."""

from forkcells.base.frames import MAX_ARRAYS, Frame
from forkcells.errors import InvalidOperation
from forkcells.logic.parts import signed_alls_of


def piece_frame(program, function, trail):
    """The frame of a piece, and the list of the names of its versions, in order."""
    whole = function.frame
    known = function.start_frame.arrays if trail.first == -1 else whole.arrays
    lengths = [length for number in trail.passed for length in lengths_made(program, function, function.row(number))]
    names = version_names(function, len(lengths))
    if len(known) + len(lengths) > MAX_ARRAYS or len(names) < len(lengths):
        raise InvalidOperation("there are too many versions of arrays")
    made = tuple([(names[k], lengths[k]) for k in range(len(lengths))])
    return (Frame(known + made, whole.positions, whole.amounts), names)


def lengths_made(program, function, row):
    """The lengths of the versions that a row makes, in order."""
    whole = function.frame
    if row[0] == "write":
        return [whole.length_of(row[1])]
    if row[0] != "fork":
        return []
    given = [array for call in row[1] for array in full_arguments(program, call)]
    changed = [told[1] for told in function.arrays if told[1] in given]
    return [whole.length_of(array) for array in given + changed]


def full_arguments(program, call):
    """The arrays that a call hands over for full parameters, in order."""
    return [array for told, array in zip(program[call[0]].arrays, call[1]) if told[0] == "full"]


def version_names(function, many):
    """The first names for versions, at most so many."""
    owns = own_names_of(function)
    names = []
    for letter in "abcdefghijklmnopqrstuvwxyz":
        word = "w" + letter
        if len(names) < many and function.frame.is_fresh(word) and word not in owns:
            names.append(word)
    return names


def own_names_of(function):
    """All own names of the claims of a function, as a dict."""
    owns = {}
    for claims in (function.before, function.after) + function.notes:
        for claim in claims:
            for told, _ in signed_alls_of(claim, True):
                owns.update({own: True for own in told[1]})
    return owns

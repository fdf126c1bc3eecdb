"""What claims say of rows and numbers.

Here `rows` is a dict from arrays to rows, and `numbers` one from all other names, and "", to
integers. Claims are not checked again.
"""

from forkcells.logic.parts import arrays_at_own, bare_terms_of


def position_of(numbers, term):
    """What a position term is."""
    return numbers[term[0]] + term[1]


def cell_of(row, position):
    """The cell of a row, or 0 outside."""
    return row[position] if 0 <= position < len(row) else 0


def amount_of(rows, numbers, term):
    """What a value term is."""
    if len(term) == 2:
        return numbers[term[0]] + term[1]
    array, word, shift, number = term
    return cell_of(rows[array], numbers[word] + shift) + number


def compares(op, one, other):
    """Whether two integers compare so."""
    if op == "<=":
        return one <= other
    if op == "<":
        return one < other
    return one == other


def is_true(rows, numbers, claim):
    """Whether a claim is true, or a guard or body whose own names are among the numbers."""
    word = claim[0]
    if word == "pos":
        return compares(claim[1], position_of(numbers, claim[2]), position_of(numbers, claim[3]))
    if word == "val":
        one, other = amount_of(rows, numbers, claim[2]), amount_of(rows, numbers, claim[3])
        return compares(claim[1], one, other)
    if word == "in":
        low, high = position_of(numbers, claim[2]), position_of(numbers, claim[3])
        return low <= numbers[claim[1]] < high
    if word == "not":
        return not is_true(rows, numbers, claim[1])
    if word == "all":
        return first_failure(rows, numbers, claim) is None
    return is_true_of_parts(rows, numbers, claim)


def is_true_of_parts(rows, numbers, claim):
    """Whether an and or an or is true."""
    # One part decides: a false one of an and, a true one of an or.
    decisive = claim[0] == "or"
    for part in claim[1]:
        if is_true(rows, numbers, part) == decisive:
            return decisive
    return not decisive


def first_failure(rows, numbers, claim):
    """The first tuple of positions at which the guard of an all is true and its body false."""
    names = claim[1]
    places = places_to_look(rows, numbers, claim)
    seconds = places if len(names) == 2 else [0]
    inner = dict(numbers)
    for first in places:
        for second in seconds:
            # With a single own name the first position is set last, and counts.
            inner[names[-1]] = second
            inner[names[0]] = first
            if is_true(rows, inner, claim[2]) and not is_true(rows, inner, claim[3]):
                return (first, second)[:len(names)]
    return None


def places_to_look(rows, numbers, claim):
    """The ascending list of the positions that decide an all.

    Between two of them nothing changes: a position there, in the place of an own name, makes
    no more guards true than the one of them ahead of it, and the cells are the same.
    """
    marks = [-1] + [len(rows[array]) for array in rows]
    marks = marks + [position_of(numbers, term) for term in bare_terms_of(claim)]
    starts = marks + [mark + 1 for mark in marks]
    for array in sorted(set(arrays_at_own(claim))):
        starts = starts + changes_in(rows[array])
    least, greatest = min(marks), max(marks)
    return sorted({place for place in starts if least <= place <= greatest})


def changes_in(row):
    """The positions whose cells differ from the ones ahead of them."""
    return [k for k in range(1, len(row)) if row[k] != row[k - 1]]

"""Rows that change at members only, and numbers that are drawn together."""


def drawn_together(numbers, most):
    """The numbers with gaps of at most `most` between neighbors; what is 0 stays 0.

    `numbers` is a dict with the number 0 among its integers. The order stays, and so does each
    difference that is less than `most`; the others stay at least as great as it.
    """
    ordered = sorted({numbers[word] for word in numbers})
    drawn = {ordered[0]: 0}
    for k in range(1, len(ordered)):
        drawn[ordered[k]] = drawn[ordered[k - 1]] + min(ordered[k] - ordered[k - 1], most)
    return {word: drawn[numbers[word]] - drawn[0] for word in numbers}


def laid_row(row, members, elder, newer, many):
    """A row of so many cells, each with what stands at the greatest member not beyond it.

    The members lie where `newer` says; in the elder row they lie where `elder` says.
    """
    sources = {}
    for word, number in members:
        sources[newer[word] + number] = elder[word] + number
    cells = []
    source = 0
    for place in range(many):
        source = sources.get(place, source)
        cells.append(row[source])
    return tuple(cells)

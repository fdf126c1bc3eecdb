"""Differences that are taken as given: what fits them, rings, and ways through them.

A difference (one, other, most) is a step from the point `other` to the point `one`: what is
known to bound `other` bounds `one` by `most` more.
"""


def points_of(differences):
    """All points of the differences and "", each once."""
    seen = {"": True}
    for one, other, _ in differences:
        seen[one] = True
        seen[other] = True
    return list(seen)


def relaxed(differences, bounds):
    """A pair: the last differences that lowered a bound, by points, and the index of such a
    difference in a round that comes only if there is a ring, or None.

    `bounds` is a dict from points to integers; it is lowered until all differences are true.
    """
    causes = {}
    latest = None
    for _ in range(len(points_of(differences)) + 1):
        latest = None
        for k in range(len(differences)):
            one, other, most = differences[k]
            if other in bounds and (one not in bounds or bounds[one] > bounds[other] + most):
                bounds[one] = bounds[other] + most
                causes[one] = k
                latest = k
        if latest is None:
            break
    return (causes, latest)


def numbers_that_fit(differences):
    """A dict from all points to integers for which all differences are true, or None."""
    bounds = {point: 0 for point in points_of(differences)}
    _, latest = relaxed(differences, bounds)
    if latest is not None:
        return None
    return {point: bounds[point] - bounds[""] for point in bounds}


def found_ring(differences):
    """The list of the indices of a ring, or None."""
    bounds = {point: 0 for point in points_of(differences)}
    causes, latest = relaxed(differences, bounds)
    if latest is None:
        return None
    # Behind so many causes the way back is on a ring, wherever it began.
    index = latest
    for _ in range(len(bounds)):
        index = causes[differences[index][1]]
    indices = [index]
    index = causes[differences[index][1]]
    while index != indices[0]:
        indices.append(index)
        index = causes[differences[index][1]]
    return indices


def least_bound(differences, one, other):
    """The least integer that `one` less `other` never exceeds, or None, if no ring is there."""
    bounds = {other: 0}
    relaxed(differences, bounds)
    return bounds.get(one)


def makes_ring(chosen):
    """Whether a list of differences, in this order, is a ring."""
    total = 0
    for k in range(len(chosen)):
        # The one ahead of the first is the last one.
        if chosen[k - 1][1] != chosen[k][0]:
            return False
        total = total + chosen[k][2]
    return total < 0

"""Situations that fit what is known on a way: positions apart where they can be, cells by levels."""

from forkcells.decide.bounds import NO_BOUND, fewest_steps
from forkcells.world.truth import is_true

# How often positions are moved apart, so that cells need not be equal.
TRIES = 6


class Candidate:
    """Numbers for all names, those of new positions too, and a table of rows; or what is against them.

    `clash` is None, or a list of pairs of points of cells that cannot be equal though they stand at
    one position here; the second one is None for a cell that is outside here and cannot be 0.
    """

    def __init__(self, worth, table, clash):
        self.worth = worth
        self.table = table
        self.clash = clash

    def shows(self, claim):
        """Whether a claim is true."""
        return is_true(self.table, self.worth, claim)

    def broken_at(self, claim, members):
        """The tuples of members at which an all is false."""
        own = claim[1]
        spots = {}
        for term in members:
            spots.setdefault(self.worth[term[0]] + term[1], []).append(term)
        inner = dict(self.worth)
        found = []
        for first in spots:
            for second in spots if len(own) == 2 else [first]:
                inner[own[0]] = first
                inner[own[-1]] = second
                if is_true(self.table, inner, claim[2]) and not is_true(self.table, inner, claim[3]):
                    found.extend(pairs_of(spots[first], spots[second], len(own)))
        return found


def pairs_of(terms, others, many):
    """All tuples of a term and another one, or of a term alone."""
    if many == 1:
        return [(term,) for term in terms]
    return [(term, other) for term in terms for other in others]


def candidate_for(state, members):
    """A candidate for the situation of a way."""
    memory = state.distances.memory()
    first = None
    for _ in range(TRIES):
        worth = spread(state, members)
        levels, clash = equal_levels(state, worth)
        if clash is None:
            state.distances.come_back(memory)
            return whole_candidate(state, worth, levels)
        first = Candidate(worth, None, clash) if first is None else first
        if not part_cells(state, clash):
            break
    state.distances.come_back(memory)
    return first


def spread(state, members):
    """Numbers for all spots, so that members lie at different positions where they can."""
    shifts = {}
    for word, shift in members:
        shifts.setdefault(word, []).append(shift)
    worth = {"": 0}
    taken = {shift: True for shift in shifts[""]}
    for word in list(state.ground.positions) + state.words:
        put_number(state, worth, word, 0, shifts.get(word, []), taken)
    # Lengths come last, so that as much as can be is inside of the arrays.
    for word in state.ground.lengths:
        put_number(state, worth, word, max(list(taken)) + 1, shifts.get(word, []), taken)
    return worth


def put_number(state, worth, word, start, shifts, taken):
    """Gives a word a number near the start, and takes the positions of its members."""
    low, high = limits(state, worth, word)
    worth[word] = free_number(low, high, start, shifts, taken)
    for shift in shifts:
        taken[worth[word] + shift] = True


def limits(state, worth, word):
    """The least and the greatest number that a word can have beside these; None for no limit."""
    spot = state.book.spot(word)
    lows, highs = [], []
    for other in worth:
        index = state.book.spot(other)
        above = state.distances.farthest(spot, index)
        below = state.distances.farthest(index, spot)
        if above < NO_BOUND:
            highs.append(worth[other] + above)
        if below < NO_BOUND:
            lows.append(worth[other] - below)
    return (max(lows) if len(lows) > 0 else None, min(highs) if len(highs) > 0 else None)


def free_number(low, high, start, shifts, taken):
    """A number between two limits, near the start, at which no shift meets what is taken."""
    first = start
    if low is not None:
        first = max(first, low)
    if high is not None:
        first = min(first, high)
    for way in (1, -1):
        number = first
        while (low is None or low <= number) and (high is None or number <= high):
            if len([shift for shift in shifts if number + shift in taken]) == 0:
                return number
            number = number + way
    return first


def position_in(worth, cell):
    """Where a cell stands."""
    return worth[cell[1]] + cell[2]


def mentioned_cells(state):
    """The ascending points of all cells in differences."""
    points = {}
    for edge in state.levels.edges:
        points[edge[0]] = True
        points[edge[1]] = True
    return [point for point in sorted(points) if state.book.cell(point) is not None]


def equal_levels(state, worth):
    """Levels where cells at one position are equal and those outside are 0, and what is against it.

    It is a pair of a dict from points to levels, and of a list of pairs or None.
    """
    many = len(state.levels.edges)
    points = mentioned_cells(state)
    clash = None
    for one, other in meeting_cells(state, worth, points):
        clash = equate(state, one, other)
        if clash is not None:
            break
    levels = {point: state.levels.level(point) for point in points}
    for word in state.ground.amounts:
        worth[word] = state.levels.level(state.book.point((word, 0)))
    state.levels.drop(many)
    return (levels, clash)


def meeting_cells(state, worth, points):
    """Pairs of points of cells that stand at one position; None is the second one for one outside."""
    pairs = []
    spots = {}
    for point in points:
        cell = state.book.cell(point)
        position = position_in(worth, cell)
        if not 0 <= position < worth[state.ground.length_of(cell[0])]:
            pairs.append((point, None))
        else:
            spot = spots.setdefault((cell[0], position), [])
            pairs.extend([(other, point) for other in spot])
            spot.append(point)
    return pairs


def equate(state, one, other):
    """Makes two points equal, or one 0; the pairs that cannot all be so, or None."""
    target = 0 if other is None else other
    for first, second in ((one, target), (target, one)):
        if not state.levels.add((first, second, 0, None, (one, other))):
            edges = state.levels.edges
            found = fewest_steps(edges, len(edges), second, first, -1)
            return [(one, other)] + [edges[index][4] for index in found if edges[index][3] is None]
    return None


def part_cells(state, clash):
    """Moves the first pair of a clash apart that can be moved; whether there is one."""
    for pair in clash:
        for moves in ways_apart(state, pair):
            if len([move for move in moves if state.distances.bars(move[0], move[1], move[2])]) == 0:
                for one, other, most in moves:
                    state.distances.add(one, other, most)
                return True
    return False


def ways_apart(state, pair):
    """Lists of differences, each of which moves two cells apart, or one to the inside."""
    array, word, shift = state.book.cell(pair[0])
    spot = state.book.spot(word)
    if pair[1] is None:
        length = state.book.spot(state.ground.length_of(array))
        return [[(0, spot, shift), (spot, length, -1 - shift)]]
    _, other_word, other_shift = state.book.cell(pair[1])
    other = state.book.spot(other_word)
    return [[(spot, other, other_shift - shift - 1)], [(other, spot, shift - other_shift - 1)]]


def whole_candidate(state, worth, levels):
    """The candidate with rows in which each cell has what stands at the last one that is told."""
    told = {array: {} for array, _ in state.ground.arrays}
    for point in levels:
        cell = state.book.cell(point)
        told[cell[0]][position_in(worth, cell)] = levels[point]
    table = {}
    for array, length in state.ground.arrays:
        row = []
        content = 0
        for position in range(worth[length]):
            content = told[array].get(position, content)
            row.append(content)
        table[array] = tuple(row)
    return Candidate(worth, table, None)

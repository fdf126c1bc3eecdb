"""What differences say together: bounds for all pairs of spots, and levels for values."""

from heapq import heappop, heappush

# No sum of differences of spots comes near to these: their numbers are at most 1000.
FAR = 10 ** 9
NO_BOUND = 10 ** 8


class Distances:
    """For each two spots the least number that the first one less the second one never exceeds."""

    def __init__(self, many):
        self._lines = [[FAR] * k + [0] + [FAR] * (many - k - 1) for k in range(many)]

    def farthest(self, one, other):
        """The least number that the one less the other never exceeds; at least NO_BOUND for none."""
        return self._lines[one][other]

    def bars(self, one, other, most):
        """Whether one less other cannot be at most so much."""
        return self._lines[other][one] + most < 0

    def add(self, one, other, most):
        """From now on one less other is at most so much; it is not barred."""
        if self._lines[one][other] <= most:
            return
        source = self._lines[other]
        for k in range(len(self._lines)):
            base = self._lines[k][one]
            if base < NO_BOUND:
                base = base + most
                line = self._lines[k]
                self._lines[k] = [old if old <= base + more else base + more for old, more in zip(line, source)]

    def fixed(self, one, other):
        """What one less other is if it is just one number, or None."""
        bound = self._lines[one][other]
        return bound if bound < NO_BOUND and bound == -self._lines[other][one] else None

    def memory(self):
        """What is known, to come back to."""
        return list(self._lines)

    def come_back(self, memory):
        """Comes back to what was known."""
        self._lines = list(memory)


class Levels:
    """Integers for all points that fit differences, which are put on and taken off again.

    A difference is kept as (one, other, most, number, way), with the number of its fact.
    """

    def __init__(self):
        self.edges = []
        self._heights = {}
        self._above = {}

    def level(self, point):
        """The integer of a point."""
        return self._heights.get(point, 0) - self._heights.get(0, 0)

    def admits(self, one, other, most):
        """Whether one less other can be at most so much."""
        return self._lowered(one, other, most) is not None

    def add(self, edge):
        """Puts a difference on, if it fits the others; whether it does."""
        one, other, most = edge[:3]
        lowered = self._lowered(one, other, most)
        if lowered is None:
            return False
        self._heights.update(lowered)
        self.edges.append(edge)
        self._above.setdefault(other, []).append((one, most))
        return True

    def drop(self, many):
        """Takes all differences but the first ones off; the levels fit these, too."""
        while len(self.edges) > many:
            edge = self.edges.pop()
            self._above[edge[1]].pop()

    def _lowered(self, one, other, most):
        """The new heights of points if a difference comes, or None if it does not fit."""
        heights = self._heights
        goal = heights.get(other, 0) + most
        if heights.get(one, 0) <= goal:
            return {}
        wanted = {one: goal}
        lowered = {}
        queue = [(goal - heights.get(one, 0), one)]
        while len(queue) > 0:
            _, point = heappop(queue)
            if point == other:
                # It would have to be lowered itself, again and again.
                return None
            if point in lowered:
                continue
            lowered[point] = wanted[point]
            for above, more in self._above.get(point, ()):
                goal = lowered[point] + more
                if above not in lowered and goal < wanted.get(above, heights.get(above, 0)):
                    wanted[above] = goal
                    heappush(queue, (goal - heights.get(above, 0), above))
        return lowered


def fewest_steps(edges, many, start, goal, most):
    """The fewest of the first edges that lead from start to goal and sum up to at most so much.

    It is a list of their indices, or None if there are none. An edge (one, other, ..) leads from
    one to other.
    """
    if start == goal and most >= 0:
        return []
    leads = {}
    for k in range(many):
        leads.setdefault(edges[k][0], []).append(k)
    least = {start: 0}
    layers = [{start: (0, None)}]
    while len(layers[-1]) > 0:
        layer = {}
        for point in layers[-1]:
            for k in leads.get(point, ()):
                other, total = edges[k][1], layers[-1][point][0] + edges[k][2]
                if other not in least or total < least[other]:
                    least[other] = total
                    layer[other] = (total, k)
        layers.append(layer)
        if goal in layer and layer[goal][0] <= most:
            return way_back(edges, layers, goal)
    return None


def way_back(edges, layers, goal):
    """The indices of the edges that lead to the goal in the last layer."""
    found = []
    point = goal
    for k in range(len(layers) - 1, 0, -1):
        index = layers[k][point][1]
        found.append(index)
        point = edges[index][0]
    return found[::-1]

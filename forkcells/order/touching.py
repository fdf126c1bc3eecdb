"""Which steps touch one cell, and which paths are related."""


def are_related(one, other):
    """Whether one of two paths begins with the other one."""
    many = min(len(one), len(other))
    return one[:many] == other[:many]


def common_path(one, other):
    """The path with which both paths begin, as long as possible."""
    many = 0
    while many < min(len(one), len(other)) and one[many] == other[many]:
        many = many + 1
    return one[:many]


class Trace:
    """The steps of a schedule so far, with the cells that they touched."""

    def __init__(self):
        self._many = 0
        # The index of the last step of each path.
        self._latest = {}
        # For each cell, and each path that touched it, the pairs of a step and whether it wrote.
        self._cells = {}

    def clashing(self, path, touched):
        """The ascending list of the steps that clash with a step of a path that comes now."""
        found = {}
        for place, position, word in touched:
            for index, writes in self._parallel(path, (place, position)):
                if writes or word == "write":
                    found[index] = True
        return sorted(found)

    def clashing_late(self, path, touched):
        """The ascending list of the steps that clash late with a path that is stuck now."""
        found = {}
        for place, position, _ in touched:
            for index, writes in self._parallel(path, (place, position)):
                if writes:
                    found[index] = True
        return sorted(found)

    def _parallel(self, path, cell):
        """The steps that touched a cell, out of paths that are beside this one in a fork that goes on."""
        found = []
        told = self._cells.get(cell, {})
        for other in told:
            if not are_related(path, other):
                latest = self._latest.get(common_path(path, other), -1)
                found.extend([pair for pair in told[other] if pair[0] > latest])
        return found

    def add(self, path, touched):
        """Takes a step in."""
        for place, position, word in touched:
            paths = self._cells.setdefault((place, position), {})
            paths.setdefault(path, []).append((self._many, word == "write"))
        self._latest[path] = self._many
        self._many = self._many + 1

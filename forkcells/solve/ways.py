"""The way from node 0 to a node of a tree, and what is known on it."""

from forkcells.solve.nodes import added_by


class Way:
    """Goes from node to node; a node can be entered when its parent was."""

    def __init__(self, question):
        self._frame = question.frame
        self._facts = []
        self._names = []
        self._parents = {0: None}
        self._added = {0: (question.facts, ())}
        self._marks = {}

    def enter(self, number):
        """Goes to a node whose parent is on the way to the last one entered."""
        facts, names = self._marks.get(self._parents[number], (0, 0))
        del self._facts[facts:]
        del self._names[names:]
        self._facts.extend(list(self._added[number][0]))
        self._names.extend(list(self._added[number][1]))
        self._marks[number] = (len(self._facts), len(self._names))

    def enter_from_start(self, number):
        """Goes to any node that was entered, by all that are ahead of it."""
        numbers = []
        while number is not None:
            numbers.append(number)
            number = self._parents[number]
        for ahead in numbers[::-1]:
            self.enter(ahead)

    def added_here(self, step):
        """What a step adds at the node that was entered, or None if it is none there."""
        return added_by(self._frame, self._facts, self._names, step)

    def grow(self, number, nexts, added):
        """The node has these next ones, at which this is added."""
        for k in range(len(nexts)):
            self._parents[nexts[k]] = number
            self._added[nexts[k]] = added[k]

    def facts_here(self):
        """The tuple of the facts known at the node that was entered."""
        return tuple(self._facts)

    def copied(self, question):
        """The same way, which goes on by itself."""
        other = Way(question)
        other._facts = list(self._facts)
        other._names = list(self._names)
        other._parents = dict(self._parents)
        other._added = dict(self._added)
        other._marks = dict(self._marks)
        return other

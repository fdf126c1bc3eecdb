"""Trees: papers that show that a question follows."""

from forkcells.base.integers import is_any_integer, is_index, require_undo
from forkcells.errors import InvalidNumber, InvalidOperation, InvalidQuestion
from forkcells.solve.nodes import joined_node, split_node
from forkcells.solve.questions import Question
from forkcells.solve.ways import Way


def is_tree(question, value):
    """Whether the value is a tree of the question."""
    require_question(question)
    return walked(question, value, None) is not None


def facts_at(question, tree, node):
    """The tuple of the facts known at a node of a tree."""
    if not is_tree(question, tree):
        raise InvalidOperation("this is no tree of the question")
    if not is_index(node, len(tree)):
        raise InvalidNumber(node)
    return walked(question, tree, node)


class Closing:
    """A tree that is made step by step, always at the first node that is not made yet."""

    def __init__(self, question):
        require_question(question)
        self._question = question
        # Each step as (number, node, next ones), in the order in which they were made.
        self._made = []
        # The open nodes; the last one is the current one.
        self._waiting = [0]
        self._way = Way(question)
        self._way.enter(0)

    def part(self, fact, place):
        """Adds a part of a fact."""
        return self._do(("part", fact, place))

    def cases(self, fact):
        """Has a case for each part of a fact."""
        return self._do(("cases", fact))

    def new(self, fact, names):
        """Makes names for where an all is false."""
        return self._do(("new", fact, names))

    def use(self, fact, terms):
        """Uses an all at terms."""
        return self._do(("at", fact, terms))

    def apart(self, one, other):
        """Has a case for each order of two terms."""
        return self._do(("apart", one, other))

    def same(self, array, fact):
        """Adds that equal positions have equal cells."""
        return self._do(("same", array, fact))

    def outside(self, array, fact):
        """Adds that a cell outside of its array is 0."""
        return self._do(("outside", array, fact))

    def ring(self, steps):
        """Closes the way by a ring."""
        return self._do(("ring", steps))

    def _do(self, step):
        if len(self._waiting) == 0:
            raise InvalidOperation("no node is open")
        added = self._way.added_here(step)
        if added is None:
            raise InvalidOperation("this is no node here")
        first = len(self._made) + len(self._waiting)
        number = self._waiting.pop()
        nexts = tuple(range(first, first + len(added)))
        self._made.append((number, joined_node(step, nexts), nexts))
        self._way.grow(number, nexts, added)
        self._waiting.extend(nexts[::-1])
        if len(self._waiting) > 0:
            self._way.enter(self._waiting[-1])
        return number

    @property
    def facts(self):
        """The facts known at the current node."""
        if len(self._waiting) == 0:
            raise InvalidOperation("no node is open")
        return self._way.facts_here()

    @property
    def open_nodes(self):
        """The ascending tuple of the open nodes."""
        return tuple(sorted(self._waiting))

    @property
    def tree(self):
        """The tuple of the nodes, if none is open."""
        if len(self._waiting) > 0:
            raise InvalidOperation("some node is open")
        nodes = {number: node for number, node, _ in self._made}
        return tuple([nodes[k] for k in range(len(nodes))])

    def undo(self, *, many=1):
        """Takes the last steps back and returns how many nodes are open then."""
        require_undo(many, len(self._made))
        for _ in range(many):
            number, _, nexts = self._made.pop()
            del self._waiting[len(self._waiting) - len(nexts):]
            self._waiting.append(number)
        if many > 0:
            self._way.enter_from_start(self._waiting[-1])
        return len(self._waiting)

    def twin(self):
        """An equal one that goes on by itself."""
        other = Closing(self._question)
        other._made = list(self._made)
        other._waiting = list(self._waiting)
        other._way = self._way.copied(self._question)
        return other

    def __bool__(self):
        return not self._waiting

    def __len__(self):
        return len(self._made)

    def __eq__(self, other):
        if not isinstance(other, Closing):
            return False
        return self._question == other._question and self._made == other._made

    def __str__(self):
        return f"closing with {len(self._made)} nodes, {len(self._waiting)} open"


def require_question(question):
    """An error, if it is no question."""
    if not isinstance(question, Question):
        raise InvalidQuestion("this is no question")


def steps_of(value):
    """The list of the pairs of step and next ones of all nodes, or None.

    It is None if a node has no form, or if some node but node 0 is not named by just one node
    that has a lower number, or node 0 is named.
    """
    if not isinstance(value, tuple):
        return None
    pairs = []
    named = {0: True}
    for number in range(len(value)):
        pair = split_node(value[number])
        if pair is None:
            return None
        for follower in pair[1]:
            if not is_any_integer(follower) or not number < follower < len(value):
                return None
            if follower in named:
                return None
            named[follower] = True
        pairs.append(pair)
    return pairs if len(named) == len(pairs) else None


def walked(question, value, stop):
    """The facts known at the node `stop`, or at the last one if it is None.

    It is None if the value is no tree.
    """
    pairs = steps_of(value)
    if pairs is None:
        return None
    way = Way(question)
    waiting = [0]
    while len(waiting) > 0:
        number = waiting.pop()
        way.enter(number)
        if number == stop:
            break
        step, nexts = pairs[number]
        added = way.added_here(step)
        if added is None or len(added) != len(nexts):
            return None
        way.grow(number, nexts, added)
        waiting.extend(nexts[::-1])
    return way.facts_here()

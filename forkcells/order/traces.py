"""Orders: which schedules differ only by exchanges of neighbors, and their sorted forms."""

from forkcells.base.integers import is_index
from forkcells.errors import InvalidNumber, InvalidOperation, TooMany
from forkcells.order.moments import all_schedules, new_machine
from forkcells.order.schedules import MAX_STEPS, MOST_WHOLE, run_along
from forkcells.order.touching import are_related
from forkcells.runs.runs import require_beginning

MAX_SORTED = 64
# How many indices a way has at most.
MOST_EXCHANGES = 5000


class Steps:
    """The steps of a schedule, and which of them hold which: these cannot be exchanged as neighbors.

    What a step touches stays as it is when others are exchanged, so this holds for all orders.
    """

    def __init__(self, program, called, situation, schedule):
        self.paths = schedule
        # For each step a dict from the cells that it touches to whether it writes them.
        self._cells = []
        machine = new_machine(program, called, situation)
        for path in schedule:
            number = machine.number_of(path)
            self._cells.append(cells_touched(machine.touched(number)))
            machine.do(number)
        # For each step those ahead of it that hold it.
        self.holders = [self._holders(index) for index in range(len(schedule))]

    def _holders(self, index):
        found = []
        for elder in range(index):
            related = are_related(self.paths[elder], self.paths[index])
            if related or do_clash(self._cells[elder], self._cells[index]):
                found.append(elder)
        return found

    def are_free(self, one, other):
        """Whether two steps can be exchanged when they are neighbors."""
        return min(one, other) not in self.holders[max(one, other)]


def cells_touched(touched):
    """A dict from cells to whether they are written."""
    cells = {}
    for array, position, word in touched:
        cells[(array, position)] = word == "write" or cells.get((array, position), False)
    return cells


def do_clash(cells, others):
    """Whether two steps touch one cell, and one of them writes it."""
    return len([cell for cell in cells if cell in others and (cells[cell] or others[cell])]) > 0


def exchanges(program, called, situation, schedule):
    """The ascending tuple of the indices at which neighbors can be exchanged."""
    require_short(program, called, situation, (schedule,))
    return tuple(free_neighbors(Steps(program, called, situation, schedule)))


def exchanged(program, called, situation, schedule, index):
    """The schedule with the neighbors at an index exchanged."""
    free = exchanges(program, called, situation, schedule)
    # True is 1 for Python, but no index.
    if not is_index(index, len(schedule)) or index not in free:
        raise InvalidNumber(index)
    return schedule[:index] + (schedule[index + 1], schedule[index]) + schedule[index + 2:]


def sorted_form(program, called, situation, schedule):
    """The least schedule that is alike in order with this one."""
    require_short(program, called, situation, (schedule,))
    return form_of(Steps(program, called, situation, schedule))


def are_alike(program, called, situation, one, other):
    """Whether exchanges lead from one schedule to the other."""
    require_short(program, called, situation, (one, other))
    forms_of_both = [form_of(Steps(program, called, situation, schedule)) for schedule in (one, other)]
    return forms_of_both[0] == forms_of_both[1]


def exchange_way(program, called, situation, one, other):
    """The indices of exchanges that lead from one schedule to the other, one after the other."""
    if not are_alike(program, called, situation, one, other):
        raise InvalidOperation("the schedules are not alike in order")
    order = list(told_steps(one))
    goal = [order.index(step) for step in told_steps(other)]
    order = list(range(len(goal)))
    way = []
    for place in range(len(goal)):
        index = order.index(goal[place])
        # What stands between comes behind it in the other one, so nothing of it holds the step.
        way.extend(list(range(place, index))[::-1])
        order = order[:place] + [goal[place]] + order[place:index] + order[index + 1:]
    return tuple(way)


def is_exchange_way(program, called, situation, one, other, value):
    """Whether the value is a tuple of indices at which exchanges lead from one schedule to the other."""
    require_short(program, called, situation, (one, other))
    if not isinstance(value, tuple) or len(value) > MOST_EXCHANGES:
        return False
    steps = Steps(program, called, situation, one)
    order = list(range(len(one)))
    for index in value:
        if not is_index(index, len(order) - 1) or not steps.are_free(order[index], order[index + 1]):
            return False
        order[index:index + 2] = [order[index + 1], order[index]]
    return tuple([one[step] for step in order]) == other


def forms(program, called, situation):
    """The ascending tuple of the sorted forms of all whole schedules."""
    require_beginning(program, called, situation)
    found = {}
    for schedule in all_schedules(new_machine(program, called, situation), MOST_WHOLE, MAX_STEPS):
        found[form_of(Steps(program, called, situation, schedule))] = True
    return tuple(sorted(found))


def require_short(program, called, situation, told):
    """An error, if one of these is no schedule, or has too many steps."""
    for schedule in told:
        run_along(program, called, situation, schedule)
    for schedule in told:
        if len(schedule) > MAX_SORTED:
            raise TooMany(MAX_SORTED)


def free_neighbors(steps):
    """The ascending list of the indices at which neighbors can be exchanged."""
    return [index for index in range(len(steps.paths) - 1) if steps.are_free(index, index + 1)]


def form_of(steps):
    """The sorted form of the schedule of these steps."""
    left = list(range(len(steps.paths)))
    form = []
    while len(left) > 0:
        first = first_step(steps, left)
        left.remove(first)
        form.append(steps.paths[first])
    return tuple(form)


def first_step(steps, left):
    """Of the steps that are left, the one of the least path that can come ahead of all others."""
    best = None
    for step in left:
        if best is None or steps.paths[step] < steps.paths[best]:
            if len([elder for elder in steps.holders[step] if elder in left]) == 0:
                best = step
    return best


def told_steps(schedule):
    """The steps of a schedule as pairs of a path and how often it comes ahead."""
    many = {}
    told = []
    for path in schedule:
        told.append((path, many.get(path, 0)))
        many[path] = many.get(path, 0) + 1
    return told

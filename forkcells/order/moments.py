"""All moments of careless sharing runs, and all whole schedules."""

from forkcells.errors import TooMany
from forkcells.runs.machine import Machine


class Moment:
    """A moment, with the numbers of its active functions, and a moment and a step that lead to it."""

    def __init__(self, memory, active, elder, number):
        self.kept = memory
        self.free = active
        self.elder = elder
        self.number = number


def new_machine(program, called, situation):
    """The machine of a careless sharing run."""
    return Machine(program, called, situation, False, True)


def all_moments(machine, most):
    """The list of all different moments behind a machine, at most so many, those of fewer steps first."""
    found = [Moment(machine.memory(), machine.active_ones(), None, None)]
    known = {machine.moment(): True}
    index = 0
    while index < len(found):
        ahead = found[index]
        for number in list(ahead.free):
            machine.come_back(ahead.kept)
            machine.do(number)
            key = machine.moment()
            if key not in known:
                if len(found) == most:
                    raise TooMany(most)
                known[key] = True
                found.append(Moment(machine.memory(), machine.active_ones(), index, number))
        index = index + 1
    return found


def schedule_to(machine, found, index):
    """A schedule with as few steps as possible to a moment, by its index."""
    paths = []
    while found[index].elder is not None:
        paths.append(machine.path(found[index].number))
        index = found[index].elder
    return tuple(paths[::-1])


def all_schedules(machine, most, most_steps):
    """The ascending list of all whole schedules behind a machine, at most so many with so many steps."""
    whole = []
    add_schedules(machine, (), whole, most, most_steps)
    return whole


def add_schedules(machine, ahead, whole, most, most_steps):
    """Adds all whole schedules that begin with these steps, which led to where the machine is."""
    active = machine.active_ones()
    if len(active) == 0:
        if len(whole) == most:
            raise TooMany(most)
        whole.append(ahead)
        return
    if len(ahead) == most_steps:
        raise TooMany(most_steps)
    memory = machine.memory()
    for number in active:
        machine.come_back(memory)
        machine.do(number)
        add_schedules(machine, ahead + (machine.path(number),), whole, most, most_steps)

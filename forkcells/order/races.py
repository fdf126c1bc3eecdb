"""Races: steps that can come in either order, and touch one cell that one of them writes."""

from forkcells.errors import InvalidOperation, TooMany
from forkcells.order.moments import all_moments, new_machine, schedule_to
from forkcells.order.schedules import MAX_MOMENTS, MOST_STEPS, followed, run_along
from forkcells.order.touching import Trace, are_related
from forkcells.runs.runs import Run, is_path, machine_of, require_beginning


def races_at(run):
    """The ascending tuple of the pairs of paths of which the first one races with the second one."""
    if not isinstance(run, Run) or machine_of(run).viewing:
        raise InvalidOperation("this is no run that shares its places")
    return tuple(races_of(machine_of(run)))


def clashes(program, called, situation, schedule):
    """The ascending tuple of the pairs of steps that clash."""
    paths = run_along(program, called, situation, schedule).schedule
    machine = new_machine(program, called, situation)
    trace = Trace()
    found = []
    for index in range(len(paths)):
        number = machine.number_of(paths[index])
        touched = machine.touched(number)
        found.extend([(elder, index) for elder in trace.clashing(paths[index], touched)])
        trace.add(paths[index], touched)
        machine.do(number)
    return tuple(sorted(found))


def late_clashes(program, called, situation, schedule):
    """The ascending tuple of the pairs of steps, and of paths with which they clash late."""
    paths = run_along(program, called, situation, schedule).schedule
    machine = new_machine(program, called, situation)
    trace = Trace()
    for path in paths:
        number = machine.number_of(path)
        trace.add(path, machine.touched(number))
        machine.do(number)
    return tuple(late_pairs(machine, trace))


def late_pairs(machine, trace):
    """The ascending list of the pairs of steps and paths that are stuck, behind the steps of a trace."""
    found = []
    for stuck in machine.stuck_tuples():
        touched = machine.touched(machine.number_of(stuck[0]))
        found.extend([(index, stuck[0]) for index in trace.clashing_late(stuck[0], touched)])
    return sorted(found)


def is_free(program, called, situation):
    """Whether no moment has a race."""
    require_beginning(program, called, situation)
    machine = new_machine(program, called, situation)
    trace = Trace()
    free = True
    many = 0
    number = machine.least_active()
    while number is not None:
        if many == MOST_STEPS:
            raise TooMany(MOST_STEPS)
        if free:
            touched = machine.touched(number)
            free = len(trace.clashing(machine.path(number), touched)) == 0
            trace.add(machine.path(number), touched)
        machine.do(number)
        many = many + 1
        number = machine.least_active()
    return free and len(late_pairs(machine, trace)) == 0


def first_race(program, called, situation):
    """A triple (schedule, p, q) of as few steps as possible, behind which p races with q, or None."""
    require_beginning(program, called, situation)
    machine = new_machine(program, called, situation)
    found = all_moments(machine, MAX_MOMENTS)
    for index in range(len(found)):
        machine.come_back(found[index].kept)
        races = races_of(machine)
        if len(races) > 0:
            return (schedule_to(machine, found, index),) + races[0]
    return None


def is_race(program, called, situation, value):
    """Whether the value is a schedule with two paths of which the first one races behind it."""
    require_beginning(program, called, situation)
    if not isinstance(value, tuple) or len(value) != 3 or not is_path(value[1]) or not is_path(value[2]):
        return False
    run = followed(program, called, situation, value[0])
    return run is not None and value[1:] in races_of(machine_of(run))


def races_of(machine):
    """The ascending list of the pairs of paths of which the first one races with the second one."""
    touched = {number: machine.touched(number) for number in machine.ready}
    found = []
    for number in machine.active_ones():
        written = [cell[:2] for cell in touched[number] if cell[2] == "write"]
        if len(written) > 0:
            for other in machine.ready:
                met = [cell for cell in touched[other] if cell[:2] in written]
                if len(met) > 0 and not are_related(machine.path(number), machine.path(other)):
                    found.append((machine.path(number), machine.path(other)))
    return found

"""Schedules: the orders in which careless sharing runs do their steps, and their ends."""

from forkcells.errors import InvalidOperation
from forkcells.order.moments import all_moments, all_schedules, new_machine, schedule_to
from forkcells.runs.runs import Run, active_number, machine_of, require_beginning, require_boolean

MAX_STEPS = 12
MAX_MOMENTS = 2000
# How many steps a schedule has at most, and how many whole ones are gone through.
MOST_STEPS = 2000
MOST_WHOLE = 2000


def is_schedule(program, called, situation, value, *, whole=False):
    """Whether the value is a schedule, a whole one if `whole` is True."""
    require_beginning(program, called, situation)
    require_boolean(whole)
    run = followed(program, called, situation, value)
    if run is None:
        return False
    return run.is_over() or not whole


def run_along(program, called, situation, schedule):
    """The run behind a schedule, from which it can go on."""
    require_beginning(program, called, situation)
    run = followed(program, called, situation, schedule)
    if run is None:
        raise InvalidOperation("this is no schedule")
    return run


def schedules(program, called, situation):
    """Yields all whole schedules, ascending."""
    require_beginning(program, called, situation)
    # All errors come ahead of the first schedule, so all are gone through by then.
    for schedule in all_schedules(new_machine(program, called, situation), MOST_WHOLE, MAX_STEPS):
        yield schedule


def moments(program, called, situation):
    """The number of all different moments."""
    require_beginning(program, called, situation)
    return len(all_moments(new_machine(program, called, situation), MAX_MOMENTS))


def ends(program, called, situation):
    """The tuple of all ends of whole schedules, each once."""
    return tuple([end for _, end in different_ends(program, called, situation)])


def parting(program, called, situation):
    """A pair of whole schedules whose ends are unlike, or None."""
    found = different_ends(program, called, situation)
    if len(found) < 2:
        return None
    return (found[0][0], found[1][0])


def is_parting(program, called, situation, value):
    """Whether the value is such a pair."""
    require_beginning(program, called, situation)
    if not isinstance(value, tuple) or len(value) != 2:
        return False
    runs = [followed(program, called, situation, schedule) for schedule in value]
    for run in runs:
        if run is None or not run.is_over():
            return False
    return end_of(runs[0]) != end_of(runs[1])


def followed(program, called, situation, value):
    """The run behind a schedule, or None if the value is none."""
    if not isinstance(value, tuple) or len(value) > MOST_STEPS:
        return None
    run = Run(program, called, situation, careless=True)
    for path in value:
        if active_number(machine_of(run), path) is None:
            return None
        run.go(path)
    return run


def end_of(run):
    """The end of a run that is over."""
    if run.is_done():
        return ("done", run.end)
    return ("stuck", run.stuck, run.places)


def different_ends(program, called, situation):
    """The list of the pairs of a whole schedule and its end, for all different ends."""
    require_beginning(program, called, situation)
    machine = new_machine(program, called, situation)
    found = all_moments(machine, MAX_MOMENTS)
    told = []
    known = {}
    for index in range(len(found)):
        if len(found[index].free) == 0:
            machine.come_back(found[index].kept)
            # The places tell the end of a run that is done: the rest of it is always the same.
            key = (machine.last is None, tuple(machine.stuck_tuples()), tuple(list(machine.contents.values())))
            if key not in known:
                known[key] = True
                schedule = schedule_to(machine, found, index)
                told.append((schedule, end_of(followed(program, called, situation, schedule))))
    return told

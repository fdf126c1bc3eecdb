"""What comes of runs in which the least active path goes on, and what goes wrong in them."""

from forkcells.runs.runs import Run, machine_of, require_most


def outcome(program, called, situation, *, most=100, viewing=False, careless=False):
    """("done", end, steps), ("stuck", stuck, steps), or ("long", steps) behind at most so many steps."""
    run = Run(program, called, situation, viewing=viewing, careless=careless)
    steps = run.go_on(most=most)
    if run.is_done():
        return ("done", run.end, steps)
    return ("stuck", run.stuck, steps) if run.is_over() else ("long", steps)


def first_break(program, called, situation, *, most=100):
    """The first claim that is false of what its function sees, or the first fault, or None."""
    run = Run(program, called, situation, viewing=True)
    require_most(most)
    found = break_now(machine_of(run))
    for _ in range(most):
        if found is not None or run.go_on(most=1) == 0:
            return found
        found = break_now(machine_of(run))
    return found


def break_now(machine):
    """What the last step of a machine broke first, or None."""
    for word, number, worker in machine.events:
        function = worker.origin.function
        if word == "before":
            index = first_false(worker, function.start_frame, function.before)
        else:
            index = first_false(worker, function.end_frame, function.after)
        if index is not None:
            return (word, machine.path(number), function.called, index)
    for number in machine.arrived:
        found = break_at(machine, number)
        if found is not None:
            return found
    return None


def break_at(machine, number):
    """What is wrong with a function that came to its next row, or None."""
    worker = machine.workers[number]
    path = machine.path(number)
    function = worker.origin.function
    if worker.next_row()[0] == "while":
        loop = len([row for row in range(worker.at) if function.row(row)[0] == "while"])
        index = first_false(worker, function.frame, function.notes[loop])
        if index is not None:
            return ("note", path, function.called, loop, index)
    fault = machine.answer(number).fault
    return None if fault is None else ("fault", path, function.called, worker.at, fault)


def first_false(worker, frame, claims):
    """The index of the first of the claims that is false of what a function sees, or None."""
    if len(claims) == 0:
        return None
    situation = worker.sight(frame)
    for index in range(len(claims)):
        if not situation.holds(claims[index]):
            return index
    return None

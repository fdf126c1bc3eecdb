"""Moments, schedules and races by the words of part 5 alone, over plain runs."""

from naive_runs import NaiveRun


def begun(program, called, situation):
    return NaiveRun(program, called, situation, careless=True)


def behind(program, called, situation, schedule):
    """The plain run behind a schedule, or None if it is none."""
    run = begun(program, called, situation)
    for path in schedule:
        if path not in run.active():
            return None
        run.go(path)
    return run


def all_moments(program, called, situation, most=60):
    """A dict from all moments to (run, schedule), or None for more than so many."""
    run = begun(program, called, situation)
    found, left = {run.key(): (run, ())}, [run.key()]
    while left:
        run, schedule = found[left.pop(0)]
        for path in run.active():
            other = run.copy()
            other.go(path)
            if other.key() not in found:
                if len(found) == most:
                    return None
                found[other.key()] = (other, schedule + (path,))
                left.append(other.key())
    return found


def all_schedules(program, called, situation):
    """All whole schedules, in any order; none may be longer than twelve steps."""
    found = []

    def visit(run, schedule):
        if not run.active():
            found.append(schedule)
        assert len(schedule) < 13
        for path in run.active():
            other = run.copy()
            other.go(path)
            visit(other, schedule + (path,))
    visit(begun(program, called, situation), ())
    return found


def end_of(run):
    places = {array: tuple(row) for array, row in sorted(run.places.items())}
    if run.last is not None:
        return ("done", places)
    return ("stuck", tuple(run.stuck()), places)


def related(one, other):
    return one == other[:len(one)] or other == one[:len(other)]


def shared(one, other):
    """The longest path with which both begin."""
    return max([one[:k] for k in range(len(one) + 1) if other[:k] == one[:k]], key=len)


def writes(cells):
    return set([cell[:2] for cell in cells if cell[2] == "write"])


def touched(cells):
    return set([cell[:2] for cell in cells])


def races(run):
    found = []
    for p in run.active():
        for q in run.ready():
            if not related(p, q) and writes(run.touches(p)) & touched(run.touches(q)):
                found.append((p, q))
    return sorted(found)


def clashes(program, called, situation, schedule):
    run, told, found = begun(program, called, situation), [], []
    for j, path in enumerate(schedule):
        cells = run.touches(path)
        for i, (other, elder) in enumerate(told):
            between = [one for one, _ in told[i + 1:]]
            if related(other, path) or shared(other, path) in between:
                continue
            if writes(elder) & touched(cells) or writes(cells) & touched(elder):
                found.append((i, j))
        told.append((path, cells))
        run.go(path)
    late = []
    for i, (path, elder) in enumerate(told):
        for q in [one[0] for one in run.stuck()]:
            if related(path, q) or shared(path, q) in [one for one, _ in told[i + 1:]]:
                continue
            if writes(elder) & touched(run.touches(q)):
                late.append((i, q))
    return tuple(sorted(found)), tuple(sorted(late))

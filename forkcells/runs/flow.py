"""Which row comes behind which."""

from forkcells.code.rows import listed_rows


def flow_of(function):
    """The list of the pairs of numbers of rows that come behind each row of a function.

    The first number counts behind a condition that is true, and behind all other rows; the second
    one behind a condition that is false. None is the end of the function.
    """
    flow = [None for _ in function]
    add_flow(flow, function.rows, 0, None)
    return flow


def add_flow(flow, rows, first, behind):
    """Puts the pairs for rows that begin with this number; `behind` comes behind the last one."""
    number = first
    for k in range(len(rows)):
        row = rows[k]
        many = len(listed_rows((row,)))
        after = number + many if k + 1 < len(rows) else behind
        flow[number] = (after, after)
        if row[0] == "if":
            middle = number + 1 + len(listed_rows(row[2]))
            flow[number] = (number + 1 if len(row[2]) > 0 else after, middle if len(row[3]) > 0 else after)
            add_flow(flow, row[2], number + 1, after)
            add_flow(flow, row[3], middle, after)
        elif row[0] == "while":
            flow[number] = (number + 1 if len(row[2]) > 0 else number, after)
            add_flow(flow, row[2], number + 1, number)
        number = number + many

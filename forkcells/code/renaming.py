"""Rows with other names."""

from forkcells.logic.putting import put_claim, put_position, put_value


def relabeled_rows(arrays, terms, rows):
    """Rows with other names: dicts from arrays to arrays, and from all other names to terms of them."""
    return tuple([relabeled_row(arrays, terms, row) for row in rows])


def relabeled_row(arrays, terms, row):
    """A row with other names."""
    word = row[0]
    if word == "move":
        return (word, put_position(terms, (row[1], 0))[0], put_position(terms, row[2]))
    if word == "keep":
        return (word, put_position(terms, (row[1], 0))[0], put_value(arrays, terms, row[2]))
    if word == "write":
        return (word, arrays.get(row[1], row[1])) + put_position(terms, row[2:4]) + (put_value(arrays, terms, row[4]),)
    if word == "fork":
        return (word, tuple([relabeled_call(arrays, terms, call) for call in row[1]]))
    condition = put_claim(arrays, terms, row[1])
    return (word, condition) + tuple([relabeled_rows(arrays, terms, inner) for inner in row[2:]])


def relabeled_call(arrays, terms, call):
    """A call with other names."""
    called, passed, positions, values = call
    passed = tuple([arrays.get(array, array) for array in passed])
    positions = tuple([put_position(terms, term) for term in positions])
    return (called, passed, positions, tuple([put_value(arrays, terms, term) for term in values]))


def recalled_rows(names, rows):
    """Rows whose forks begin functions with other names."""
    return tuple([recalled_row(names, row) for row in rows])


def recalled_row(names, row):
    """A row whose fork, or the forks in it, begin functions with other names."""
    if row[0] == "fork":
        return ("fork", tuple([(names.get(call[0], call[0]),) + call[1:] for call in row[1]]))
    if row[0] == "if" or row[0] == "while":
        return row[:2] + tuple([recalled_rows(names, inner) for inner in row[2:]])
    return row

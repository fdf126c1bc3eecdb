"""Reads the texts of rows and functions."""

from forkcells.code.functions import MAX_INSIDE, Function
from forkcells.text.claim_reader import whole_claim


def listed(scanner, kind, between):
    """A list of members of a kind, in which this stands between two of them; a minus is an empty one."""
    if scanner.next_sign() == "-" and (kind == "name" or kind == "array" or not scanner.is_digit_behind()):
        scanner.take("-")
        return ()
    found = [member(scanner, kind)]
    while scanner.next_sign() == between[0]:
        scanner.take(between)
        found.append(member(scanner, kind))
    return tuple(found)


def member(scanner, kind):
    """A member of a list."""
    if kind == "name":
        return scanner.take_name()
    if kind == "place":
        return scanner.take_place()
    if kind == "amount":
        return scanner.take_amount()
    return told_array(scanner) if kind == "array" else whole_claim(scanner)


def outer_rows(scanner):
    """One or more rows that stand in no others."""
    return deep_rows(scanner, MAX_INSIDE)


def deep_rows(scanner, deeper):
    """One or more rows, in which rows stand at most so much deeper."""
    found = [deep_row(scanner, deeper)]
    while scanner.next_sign() == ";":
        scanner.take("; ")
        found.append(deep_row(scanner, deeper))
    return tuple(found)


def block(scanner, deeper):
    """Rows in braces; there are none if they would stand too deep."""
    scanner.take("{ ")
    if scanner.next_sign() == "}" or deeper < 0:
        scanner.take("}")
        return ()
    found = deep_rows(scanner, deeper)
    scanner.take(" }")
    return found


def deep_row(scanner, deeper):
    """A row, in which rows stand at most so much deeper."""
    word = scanner.take_name()
    if scanner.next_sign() == "[":
        scanner.take("[")
        term = scanner.take_place()
        scanner.take("] = ")
        return ("write", word) + term + (scanner.take_amount(),)
    scanner.take(" ")
    # A local can have any of the words as its name.
    if scanner.next_sign() == "=":
        scanner.take("= ")
        return ("keep", word, scanner.take_amount())
    if word == "fork" and scanner.is_letter():
        return (word, calls(scanner))
    if (word == "if" or word == "while") and scanner.next_sign() != ":":
        condition = whole_claim(scanner)
        scanner.take(" ")
        rows = block(scanner, deeper - 1)
        if word == "while":
            return (word, condition, rows)
        scanner.take(" else ")
        return (word, condition, rows, block(scanner, deeper - 1))
    scanner.take(":= ")
    return ("move", word, scanner.take_place())


def calls(scanner):
    """One or more calls."""
    found = [call(scanner)]
    while scanner.next_sign() == ",":
        scanner.take(", ")
        found.append(call(scanner))
    return tuple(found)


def call(scanner):
    """A call."""
    called = scanner.take_name()
    scanner.take("(")
    arrays = listed(scanner, "name", ", ")
    scanner.take(" | ")
    positions = listed(scanner, "place", ", ")
    scanner.take(" | ")
    values = listed(scanner, "amount", ", ")
    scanner.take(")")
    return (called, arrays, positions, values)


def told_array(scanner):
    """An array parameter."""
    if scanner.next_sign() == "f":
        scanner.take("full ")
        word = "full"
    else:
        scanner.take("look ")
        word = "look"
    array = scanner.take_name()
    scanner.take(":")
    told = (word, array, scanner.take_name())
    if word == "full":
        scanner.take(" was ")
        told = told + (scanner.take_name(),)
    scanner.take(" from ")
    low = scanner.take_place()
    scanner.take(" to ")
    return told + (low, scanner.take_place())


def told_notes(scanner):
    """The claims of all loops."""
    if scanner.next_sign() == ")":
        return ()
    found = [listed(scanner, "claim", " & ")]
    while scanner.next_sign() == ";":
        scanner.take("; ")
        found.append(listed(scanner, "claim", " & "))
    return tuple(found)


def told_function(scanner):
    """What a text tells of a function, as a dict of all that it is made of."""
    told = {"called": scanner.take_name()}
    scanner.take("(")
    told["arrays"] = listed(scanner, "array", ", ")
    scanner.take(" | ")
    told["positions"] = listed(scanner, "name", ", ")
    scanner.take(" | ")
    told["values"] = listed(scanner, "name", ", ")
    scanner.take(") with (")
    told["places"] = listed(scanner, "name", ", ")
    scanner.take(" | ")
    told["numbers"] = listed(scanner, "name", ", ")
    scanner.take(") before (")
    told["before"] = listed(scanner, "claim", " & ")
    scanner.take(") after (")
    told["after"] = listed(scanner, "claim", " & ")
    scanner.take(") notes (")
    told["notes"] = told_notes(scanner)
    scanner.take(") ")
    told["rows"] = block(scanner, MAX_INSIDE)
    return told


def function_of(told):
    """The function of which this is told; `InvalidFunction` if there is none."""
    return Function(
        told["called"],
        arrays=told["arrays"],
        positions=told["positions"],
        values=told["values"],
        places=told["places"],
        numbers=told["numbers"],
        rows=told["rows"],
        notes=told["notes"],
        before=told["before"],
        after=told["after"],
    )

"""Reads the texts of claims."""

from forkcells.logic.forms import MAX_DEPTH


def whole_claim(scanner):
    """A claim with any depth that a claim can have."""
    return deep_claim(scanner, MAX_DEPTH, True, False)


def deep_claim(scanner, most, whole, guarding):
    """A claim with at most this depth.

    An all can stand in it if `whole` is true, and what an "in" says if `guarding` is.
    """
    if scanner.next_sign() == "[":
        return bracket(scanner, guarding)
    if not scanner.is_letter():
        return comparison(scanner, scanner.take_amount())
    word = scanner.take_name()
    if scanner.next_sign() == "(" and (word == "and" or word == "or"):
        return (word, parts(scanner, most, whole, guarding))
    if scanner.next_sign() == "(" and word == "not" and most > 1:
        scanner.take("(")
        part = deep_claim(scanner, most - 1, whole, guarding)
        scanner.take(")")
        return (word, part)
    # A value can be called "all", too: then a sign comes behind the blank.
    if word == "all" and whole and most > 1 and scanner.next_sign() == " " and scanner.is_letter_behind():
        return whole_all(scanner, most)
    return comparison(scanner, scanner.take_amount_of(word))


def comparison(scanner, one):
    """The rest of an atom of values that begins with a term."""
    scanner.take(" ")
    op = compared(scanner)
    scanner.take(" ")
    return ("val", op, one, scanner.take_amount())


def compared(scanner):
    """A sign that compares."""
    if scanner.next_sign() == "=":
        scanner.take("==")
        return "=="
    scanner.take("<")
    if scanner.next_sign() != "=":
        return "<"
    scanner.take("=")
    return "<="


def bracket(scanner, guarding):
    """An atom of positions, or what an "in" says."""
    scanner.take("[")
    one = scanner.take_place()
    scanner.take(" ")
    if guarding and one[0] != "" and one[1] == 0 and scanner.next_sign() == "i":
        scanner.take("in ")
        low = scanner.take_place()
        scanner.take(" to ")
        made = ("in", one[0], low, scanner.take_place())
    else:
        op = compared(scanner)
        scanner.take(" ")
        made = ("pos", op, one, scanner.take_place())
    scanner.take("]")
    return made


def parts(scanner, most, whole, guarding):
    """The parts of an and or an or."""
    scanner.take("(")
    found = []
    if scanner.next_sign() != ")" and most > 1:
        found.append(deep_claim(scanner, most - 1, whole, guarding))
        while scanner.next_sign() == ",":
            scanner.take(", ")
            found.append(deep_claim(scanner, most - 1, whole, guarding))
    scanner.take(")")
    return tuple(found)


def whole_all(scanner, most):
    """An all, behind its word."""
    scanner.take(" ")
    names = [scanner.take_name()]
    if scanner.next_sign() == ",":
        scanner.take(", ")
        names.append(scanner.take_name())
    scanner.take(" (")
    guard = deep_claim(scanner, most - 1, False, True)
    scanner.take(" -> ")
    body = deep_claim(scanner, most - 1, False, False)
    scanner.take(")")
    return ("all", tuple(names), guard, body)

"""The texts of claims, rows, functions and situations, written and read."""

from forkcells.base.frames import Frame
from forkcells.code.functions import MAX_INSIDE, Function
from forkcells.errors import InvalidClaim, InvalidFrame, InvalidFunction, InvalidSituation
from forkcells.text.claim_reader import whole_claim
from forkcells.text.row_reader import function_of, outer_rows, told_function
from forkcells.text.scanner import Scanner
from forkcells.text.text_forms import are_row_forms, is_whole_form
from forkcells.text.writer import claim_text, function_text, rows_text
from forkcells.world.situations import Situation


def write_claim(claim):
    """The text of a claim."""
    if not is_whole_form(claim):
        raise InvalidClaim("this has not the form of a claim")
    return claim_text(claim)


def write_rows(rows):
    """The text of rows."""
    if not are_row_forms(rows, MAX_INSIDE):
        raise InvalidFunction("this has not the form of rows")
    return rows_text(rows)


def write_function(function):
    """The text of a function."""
    if not isinstance(function, Function):
        raise InvalidFunction("this is no function")
    return function_text(function)


def write_functions(functions):
    """The text of one or more functions."""
    if not isinstance(functions, tuple) or len(functions) == 0:
        raise InvalidFunction("this is no tuple of functions")
    return "\n".join([write_function(function) for function in functions])


def read_claim(text):
    """The claim with this text."""
    scanner = Scanner(text)
    claim = whole_claim(scanner)
    scanner.close()
    return claim


def read_rows(text):
    """The rows with this text."""
    scanner = Scanner(text)
    if scanner.is_end():
        return ()
    rows = outer_rows(scanner)
    scanner.close()
    return rows


def read_function(text):
    """The function with this text."""
    scanner = Scanner(text)
    told = told_function(scanner)
    scanner.close()
    return function_of(told)


def read_functions(text):
    """The tuple of the functions with this text."""
    scanner = Scanner(text)
    told = [told_function(scanner)]
    while not scanner.is_end():
        scanner.take("\n")
        told.append(told_function(scanner))
    # All of the text is read ahead of the first error about a function.
    return tuple([function_of(one) for one in told])


def write_situation(situation):
    """The text of a situation."""
    if not isinstance(situation, Situation):
        raise InvalidSituation("this is no situation")
    return str(situation)


def read_situation(frame, text):
    """The situation of a frame with this text."""
    if not isinstance(frame, Frame):
        raise InvalidFrame("this is no frame")
    scanner = Scanner(text)
    rows = told_cells(scanner, frame)
    scanner.take(" | ")
    positions = told_numbers(scanner, frame.positions)
    scanner.take(" | ")
    values = told_numbers(scanner, frame.amounts)
    scanner.close()
    return Situation(frame, rows, positions, values)


def told_cells(scanner, frame):
    """A dict from the arrays to their rows."""
    if len(frame.arrays) == 0:
        scanner.take("-")
    rows = {}
    for array, _ in frame.arrays:
        if len(rows) > 0:
            scanner.take(" ")
        scanner.take(array + "=")
        rows[array] = told_row(scanner)
    return rows


def told_row(scanner):
    """A row of numbers; a minus alone is an empty one."""
    if scanner.next_sign() == "-" and not scanner.is_digit_behind():
        scanner.take("-")
        return ()
    cells = [scanner.take_number()]
    while scanner.next_sign() == " " and scanner.is_number_behind():
        scanner.take(" ")
        cells.append(scanner.take_number())
    return tuple(cells)


def told_numbers(scanner, words):
    """A dict from names to numbers; a minus stands for none."""
    if len(words) == 0:
        scanner.take("-")
    numbers = {}
    for word in words:
        if len(numbers) > 0:
            scanner.take(" ")
        scanner.take(word + "=")
        numbers[word] = scanner.take_number()
    return numbers

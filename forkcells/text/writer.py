"""Writes the texts of claims, rows and functions."""


def claim_text(claim):
    """The text of a claim."""
    word = claim[0]
    if word == "pos":
        return f"[{place_text(claim[2])} {claim[1]} {place_text(claim[3])}]"
    if word == "val":
        return f"{amount_text(claim[2])} {claim[1]} {amount_text(claim[3])}"
    if word == "in":
        return f"[{claim[1]} in {place_text(claim[2])} to {place_text(claim[3])}]"
    if word == "not":
        return f"not({claim_text(claim[1])})"
    if word == "all":
        names = ", ".join(list(claim[1]))
        return f"all {names} ({claim_text(claim[2])} -> {claim_text(claim[3])})"
    inner = ", ".join([claim_text(part) for part in claim[1]])
    return f"{word}({inner})"


def place_text(term):
    """The text of a position term, or of a value term without a cell."""
    word, number = term
    return str(number) if word == "" else word + shift_text(number)


def shift_text(number):
    """The text of a number behind a name or a cell."""
    if number == 0:
        return ""
    return f"+{number}" if number > 0 else str(number)


def amount_text(term):
    """The text of a value term."""
    if len(term) == 2:
        return place_text(term)
    return f"{term[0]}[{place_text(term[1:3])}]{shift_text(term[3])}"


def list_text(texts, between):
    """The text of a list with these members."""
    return between.join(texts) if len(texts) > 0 else "-"


def rows_text(rows):
    """The text of rows."""
    return "; ".join([row_text(row) for row in rows])


def block_text(rows):
    """The text of rows in braces."""
    return "{ " + rows_text(rows) + " }" if len(rows) > 0 else "{ }"


def row_text(row):
    """The text of a row."""
    word = row[0]
    if word == "move":
        return f"{row[1]} := {place_text(row[2])}"
    if word == "keep":
        return f"{row[1]} = {amount_text(row[2])}"
    if word == "write":
        return f"{row[1]}[{place_text(row[2:4])}] = {amount_text(row[4])}"
    if word == "fork":
        calls = ", ".join([call_text(call) for call in row[1]])
        return f"fork {calls}"
    told = f"{word} {claim_text(row[1])} {block_text(row[2])}"
    return told if word == "while" else f"{told} else {block_text(row[3])}"


def call_text(call):
    """The text of a call."""
    called, arrays, positions, values = call
    places = list_text([place_text(term) for term in positions], ", ")
    amounts = list_text([amount_text(term) for term in values], ", ")
    return f"{called}({names_text(arrays)} | {places} | {amounts})"


def array_text(told):
    """The text of an array parameter."""
    word, array, length = told[:3]
    was = f" was {told[3]}" if word == "full" else ""
    return f"{word} {array}:{length}{was} from {place_text(told[-2])} to {place_text(told[-1])}"


def claims_text(claims):
    """The text of claims."""
    return list_text([claim_text(claim) for claim in claims], " & ")


def names_text(names):
    """The text of names."""
    return list_text(list(names), ", ")


def function_text(function):
    """The text of a function."""
    arrays = list_text([array_text(told) for told in function.arrays], ", ")
    heading = f"{arrays} | {names_text(function.positions)} | {names_text(function.amounts)}"
    inner = f"{names_text(function.places)} | {names_text(function.numbers)}"
    notes = "; ".join([claims_text(claims) for claims in function.notes])
    contract = f"before ({claims_text(function.before)}) after ({claims_text(function.after)})"
    return f"{function.called}({heading}) with ({inner}) {contract} notes ({notes}) {block_text(function.rows)}"

"""The members and the few of a question, worked out from its claims."""

from forkcells.logic.parts import atoms_of, cells_in, position_terms_in, signed_alls_of


def signed_alls(given, wanted):
    """Pairs of each all of a question and whether it is positive, in their order."""
    pairs = [pair for claim in given for pair in signed_alls_of(claim, True)]
    return pairs + signed_alls_of(wanted, False)


def negative_alls(given, wanted):
    """The list of the negative alls of a question, in their order."""
    return [claim for claim, positive in signed_alls(given, wanted) if not positive]


def new_positions(negatives):
    """The names of the new positions of these negative alls."""
    many = len([own for claim in negatives for own in claim[1]])
    return tuple([f"*{k + 1}" for k in range(many)])


def members_of(frame, given, wanted, fresh):
    """The ascending tuple of the members of a question."""
    members = [("", -1), ("", 0)] + [(length, 0) for length in frame.lengths]
    for claim in given + (wanted,):
        cells = [cell for atom in atoms_of(claim) for cell in cells_in(atom)]
        members = members + bare_terms(frame, [cell[1:3] for cell in cells])
    for claim, positive in signed_alls(given, wanted):
        if positive:
            members = members + bare_terms(frame, compared_terms(claim[2]))
    members = members + [(word, 0) for word in fresh]
    return tuple(sorted(set(members)))


def compared_terms(guard):
    """The terms that are compared in a guard, of an "in" its low alone."""
    terms = []
    for atom in atoms_of(guard):
        terms.append(atom[2])
        if atom[0] != "in":
            terms.append(atom[3])
    return terms


def bare_terms(frame, terms):
    """Those of the terms that have no own name."""
    return [term for term in terms if term[0] == "" or term[0] in frame]


def greatest_number(given, wanted):
    """The greatest number, without its sign, of all position terms in these claims; at least 1."""
    atoms = [atom for claim in given + (wanted,) for atom in atoms_of(claim)]
    return max([1] + [abs(term[1]) for atom in atoms for term in position_terms_in(atom)])

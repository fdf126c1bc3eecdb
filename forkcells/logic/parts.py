"""What stands in a claim: its atoms, alls and terms."""


def atoms_of(claim):
    """All atoms of a claim, a guard or a body, in their order; an "in" is one."""
    word = claim[0]
    if word == "not":
        return atoms_of(claim[1])
    if word == "and" or word == "or":
        return [atom for part in claim[1] for atom in atoms_of(part)]
    if word == "all":
        return atoms_of(claim[2]) + atoms_of(claim[3])
    return [claim]


def signed_alls_of(claim, positive):
    """Pairs of each all of a claim and whether it is positive there, in their order."""
    word = claim[0]
    if word == "all":
        return [(claim, positive)]
    if word == "not":
        return signed_alls_of(claim[1], not positive)
    if word == "and" or word == "or":
        return [pair for part in claim[1] for pair in signed_alls_of(part, positive)]
    return []


def cells_in(atom):
    """The cells that stand in an atom."""
    if atom[0] != "val":
        return []
    return [term for term in atom[2:] if len(term) == 4]


def position_terms_in(atom):
    """The position terms in an atom, those of its cells too; the own name of an "in" is none."""
    if atom[0] == "val":
        return [cell[1:3] for cell in cells_in(atom)]
    return [atom[2], atom[3]]


def words_in(atom):
    """All words with which terms begin in an atom, arrays and own names too."""
    words = [term[0] for term in position_terms_in(atom)]
    if atom[0] == "val":
        words = words + [atom[2][0], atom[3][0]]
    return words


def bare_terms_of(claim):
    """The terms without own names in the guard of an all."""
    terms = [term for atom in atoms_of(claim[2]) for term in position_terms_in(atom)]
    return [term for term in terms if term[0] not in claim[1]]


def arrays_at_own(claim):
    """The arrays of which the body of an all reads cells at own names."""
    cells = [cell for atom in atoms_of(claim[3]) for cell in cells_in(atom)]
    return [cell[0] for cell in cells if cell[1] in claim[1]]

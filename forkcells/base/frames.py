"""Names and frames: what claims can speak of."""

from forkcells.base.integers import is_passed_integer
from forkcells.base.terms import is_amount_pair, is_cell, is_position_pair, kind_among, shifted_term
from forkcells.errors import InvalidFrame, InvalidNumber, InvalidOperation, InvalidTerm, UnknownName

MAX_ARRAYS = 12
MAX_POSITIONS = 8
MAX_VALUES = 6


def is_name(value):
    """Whether the value is a name: one to eight letters from a to z."""
    if not isinstance(value, str) or not 1 <= len(value) <= 8:
        return False
    for letter in value:
        if not "a" <= letter <= "z":
            return False
    return True


class Frame:
    """Arrays with the names of their lengths, positions and values. It never changes."""

    def __init__(self, arrays, positions, values):
        if not is_frame_content(arrays, positions, values):
            raise InvalidFrame("no frame has these arrays, positions and values")
        self._arrays = arrays
        self._positions = positions
        self._amounts = values
        self._lengths = different_lengths(arrays)
        self._length_of = {array: length for array, length in arrays}
        self._kinds = kinds_of_names(arrays, positions, values)

    @property
    def arrays(self):
        """The pairs of an array and its length."""
        return self._arrays

    @property
    def positions(self):
        """The names of the positions."""
        return self._positions

    @property
    def amounts(self):
        """The names of the values."""
        return self._amounts

    @property
    def lengths(self):
        """The different lengths, in the order in which they stand first."""
        return self._lengths

    def length_of(self, array):
        """The name of the length of an array."""
        if kind_among(self._kinds, array) != "array":
            raise UnknownName(array)
        return self._length_of[array]

    def kind_of(self, word):
        """What a name stands for: "array", "length", "position" or "value"."""
        kind = kind_among(self._kinds, word)
        if kind is None:
            raise UnknownName(word)
        return kind

    def is_fresh(self, value):
        """Whether the value is a name that is none of this frame."""
        return is_name(value) and value not in self._kinds

    def is_position_term(self, value, *, own=()):
        """Whether the value is a position term; the names of `own` count as positions."""
        if not are_own_names(self, own):
            raise InvalidTerm("these are not at most two different fresh names")
        return is_position_pair(self._kinds, value, own)

    def is_value_term(self, value, *, own=()):
        """Whether the value is a value term; the names of `own` count as positions."""
        if not are_own_names(self, own):
            raise InvalidTerm("these are not at most two different fresh names")
        return is_amount_pair(self._kinds, value) or is_cell(self._kinds, value, own)

    def shifted(self, term, shift):
        """The term with so much more."""
        if not is_any_term(self, term):
            raise InvalidTerm("this is no term of the frame")
        if not is_passed_integer(shift):
            raise InvalidNumber(shift)
        result = shifted_term(term, shift)
        if not is_any_term(self, result):
            raise InvalidTerm("the number would be too long")
        return result

    def with_names(self, *, arrays=(), positions=(), values=()):
        """The frame with more names of each kind, behind the others."""
        for more in (arrays, positions, values):
            if not isinstance(more, tuple):
                raise InvalidFrame("names are added as tuples")
        return Frame(self._arrays + arrays, self._positions + positions, self._amounts + values)

    def renamed(self, names):
        """The frame with other names, by a dict from some of its names."""
        if not is_renaming(self._kinds, names):
            raise InvalidOperation("this does not give all names of the frame different names")
        arrays = [(names.get(array, array), names.get(length, length)) for array, length in self._arrays]
        positions = [names.get(word, word) for word in self._positions]
        values = [names.get(word, word) for word in self._amounts]
        return Frame(tuple(arrays), tuple(positions), tuple(values))

    def __contains__(self, value):
        return kind_among(self._kinds, value) is not None

    def __len__(self):
        return len(self._kinds)

    def __eq__(self, other):
        if not isinstance(other, Frame):
            return False
        if self._arrays != other._arrays or self._positions != other._positions:
            return False
        return self._amounts == other._amounts

    def __str__(self):
        return f"{shown_pairs(self._arrays)} | {shown_words(self._positions)} | {shown_words(self._amounts)}"


def shown_pairs(arrays):
    """The text of arrays with their lengths."""
    return shown_words([f"{array}:{length}" for array, length in arrays])


def shown_words(words):
    """Words with blanks between them, or a sign for none."""
    return " ".join(words) if len(words) > 0 else "-"


def is_of_kind(frame, word, kind):
    """Whether the word, any value, is a name of the frame that stands for this."""
    return word in frame and frame.kind_of(word) == kind


def is_any_term(frame, value):
    """Whether the value is a position term or a value term of the frame."""
    return frame.is_position_term(value) or frame.is_value_term(value)


def are_own_names(frame, value):
    """Whether the value is a tuple of at most two different fresh names."""
    if not isinstance(value, tuple) or len(value) > 2:
        return False
    for word in value:
        if not frame.is_fresh(word):
            return False
    return len(value) < 2 or value[0] != value[1]


def are_pairs(value):
    """Whether the value is a tuple of pairs."""
    if not isinstance(value, tuple):
        return False
    for pair in value:
        if not isinstance(pair, tuple) or len(pair) != 2:
            return False
    return True


def different_lengths(arrays):
    """The different lengths, in the order in which they stand first."""
    seen = {length: True for _, length in arrays}
    return tuple(seen)


def is_frame_content(arrays, positions, values):
    """Whether a frame can have these arrays, positions and values."""
    if not are_pairs(arrays) or not isinstance(positions, tuple) or not isinstance(values, tuple):
        return False
    if len(arrays) > MAX_ARRAYS or len(positions) > MAX_POSITIONS or len(values) > MAX_VALUES:
        return False
    words = [word for pair in arrays for word in pair] + list(positions) + list(values)
    for word in words:
        if not is_name(word):
            return False
    # Only a length can stand several times, so lengths are counted once.
    many = len(arrays) + len(different_lengths(arrays)) + len(positions) + len(values)
    return many == len(set(words))


def kinds_of_names(arrays, positions, values):
    """A dict from all names to their kinds."""
    kinds = {array: "array" for array, _ in arrays}
    for _, length in arrays:
        kinds[length] = "length"
    for word in positions:
        kinds[word] = "position"
    for word in values:
        kinds[word] = "value"
    return kinds


def is_renaming(kinds, names):
    """Whether `names` is a dict from some names to names that leaves all names different."""
    if not isinstance(names, dict):
        return False
    for word in names:
        if kind_among(kinds, word) is None or not is_name(names[word]):
            return False
    return len({names.get(word, word) for word in kinds}) == len(kinds)

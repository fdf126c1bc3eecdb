"""Goes through a text, character by character, and tells where it is wrong."""

from forkcells.errors import ParseError

MAX_LETTERS = 8
MAX_DIGITS = 60


class Scanner:
    """A text, and how far it is read. What is read must stand there: `ParseError` otherwise."""

    def __init__(self, text):
        if not isinstance(text, str):
            raise ParseError(None)
        self._text = text
        self._at = 0

    def next_sign(self):
        """The next character, or the empty text at the end."""
        return self._text[self._at:self._at + 1]

    def is_end(self):
        """Whether nothing is left."""
        return self._at == len(self._text)

    def close(self):
        """Nothing more may stand there."""
        if not self.is_end():
            raise ParseError(self._at)

    def take(self, word):
        """This word must stand there."""
        for letter in word:
            if self.next_sign() != letter:
                raise ParseError(self._at)
            self._at = self._at + 1

    def is_letter(self):
        """Whether a letter comes next."""
        return "a" <= self.next_sign() <= "z"

    def is_letter_behind(self):
        """Whether a letter comes behind the next character."""
        return "a" <= self._text[self._at + 1:self._at + 2] <= "z"

    def is_digit_behind(self):
        """Whether a digit comes behind the next character."""
        return "0" <= self._text[self._at + 1:self._at + 2] <= "9"

    def is_number_behind(self):
        """Whether a digit or a minus comes behind the next character."""
        return self.is_digit_behind() or self._text[self._at + 1:self._at + 2] == "-"

    def take_name(self):
        """A name."""
        first = self._at
        while self.is_letter() and self._at < first + MAX_LETTERS:
            self._at = self._at + 1
        if self._at == first or self.is_letter():
            raise ParseError(self._at)
        return self._text[first:self._at]

    def take_digits(self):
        """A number from 1 on."""
        first = self._at
        if not "1" <= self.next_sign() <= "9":
            raise ParseError(self._at)
        while "0" <= self.next_sign() <= "9" and self._at < first + MAX_DIGITS:
            self._at = self._at + 1
        return int(self._text[first:self._at])

    def take_number(self):
        """An integer."""
        if self.next_sign() == "0":
            self.take("0")
            return 0
        if self.next_sign() == "-":
            self.take("-")
            return -self.take_digits()
        return self.take_digits()

    def take_shift(self):
        """How much more than a name a term is: 0 where nothing is told."""
        if self.next_sign() == "+":
            self.take("+")
            return self.take_digits()
        if self.next_sign() == "-":
            self.take("-")
            return -self.take_digits()
        return 0

    def take_place(self):
        """A position term."""
        if self.is_letter():
            word = self.take_name()
            return (word, self.take_shift())
        return ("", self.take_number())

    def take_amount(self):
        """A value term."""
        if self.is_letter():
            return self.take_amount_of(self.take_name())
        return ("", self.take_number())

    def take_amount_of(self, word):
        """The rest of a value term that begins with a name."""
        if self.next_sign() != "[":
            return (word, self.take_shift())
        self.take("[")
        term = self.take_place()
        self.take("]")
        return (word,) + term + (self.take_shift(),)

"""The forms of texts by [10.1] to [10.4], by trying all ways: where a text is no longer the beginning of one.

Each form is a function of a text and a place, and yields all places at which it can end there. The
farthest place at which a character was wrong is the first one that no such text has.
"""

LETTERS, DIGITS = "abcdefghijklmnopqrstuvwxyz", "0123456789"


class Grammar:
    def __init__(self, text):
        self.text, self.far = text, -1

    def index(self, form):
        """None if the whole text has the form, else where it is wrong."""
        for end in form(0):
            if end == len(self.text):
                return None
            self.far = max(self.far, end)
        return self.far

    def one(self, at, letters):
        if at < len(self.text) and self.text[at] in letters:
            return True
        self.far = max(self.far, at)
        return False

    def seq(self, at, *forms):
        """One form behind another one; a string stands for itself."""
        if not forms:
            yield at
            return
        first = forms[0]
        if isinstance(first, str):
            for k, letter in enumerate(first):
                if not self.one(at + k, letter):
                    return
            yield from self.seq(at + len(first), *forms[1:])
            return
        for end in first(at):
            yield from self.seq(end, *forms[1:])

    def some(self, at, form, between):
        """One or more of a form."""
        ends = [at]
        first = True
        while ends:
            found = set()
            for end in ends:
                for other in (form(end) if first else self.seq(end, between, form)):
                    found.add(other)
            yield from sorted(found)
            ends, first = sorted(found), False

    def name(self, at):
        for many in range(8):
            if not self.one(at + many, LETTERS):
                return
            yield at + many + 1

    def count(self, at):
        """A number from 1 on."""
        if self.one(at, DIGITS[1:]):
            yield at + 1
            for many in range(1, 60):
                if not self.one(at + many, DIGITS):
                    return
                yield at + many + 1

    def number(self, at):
        yield from self.seq(at, "0")
        yield from self.count(at)
        yield from self.seq(at, "-", self.count)

    def shift(self, at):
        yield at
        yield from self.seq(at, "+", self.count)
        yield from self.seq(at, "-", self.count)

    def place(self, at):
        yield from self.number(at)
        yield from self.seq(at, self.name, self.shift)

    def amount(self, at):
        yield from self.place(at)
        yield from self.seq(at, self.name, "[", self.place, "]", self.shift)

    def sign(self, at):
        for word in ("<=", "<", "=="):
            yield from self.seq(at, word)

    def claim(self, most, whole=True, guarding=False):
        def form(at):
            yield from self.seq(at, "[", self.place, " ", self.sign, " ", self.place, "]")
            yield from self.seq(at, self.amount, " ", self.sign, " ", self.amount)
            if guarding:
                yield from self.seq(at, "[", self.name, " in ", self.place, " to ", self.place, "]")
            for word in ("and", "or"):
                yield from self.seq(at, word + "()")
            if most == 1:
                return
            deeper = self.claim(most - 1, whole, guarding)
            yield from self.seq(at, "not(", deeper, ")")
            for word in ("and", "or"):
                yield from self.seq(at, word + "(", lambda end: self.some(end, deeper, ", "), ")")
            if whole:
                guard, body = self.claim(most - 1, False, True), self.claim(most - 1, False, False)
                for names in ((self.name,), (self.name, ", ", self.name)):
                    yield from self.seq(at, "all ", *names, " (", guard, " -> ", body, ")")
        return form

    def top(self, at):
        yield from self.claim(12)(at)

    def row(self, deeper):
        def form(at):
            inner = self.block(deeper - 1)
            yield from self.seq(at, self.name, " := ", self.place)
            yield from self.seq(at, self.name, " = ", self.amount)
            yield from self.seq(at, self.name, "[", self.place, "] = ", self.amount)
            yield from self.seq(at, "if ", self.top, " ", inner, " else ", inner)
            yield from self.seq(at, "while ", self.top, " ", inner)
            yield from self.seq(at, "fork ", lambda end: self.some(end, self.call, ", "))
        return form

    def rows(self, at):
        yield at
        yield from self.some(at, self.row(4), "; ")

    def block(self, deeper):
        def form(at):
            yield from self.seq(at, "{ }")
            if deeper >= 0:
                yield from self.seq(at, "{ ", lambda end: self.some(end, self.row(deeper), "; "), " }")
        return form

    def listed(self, form, between=", "):
        def found(at):
            yield from self.seq(at, "-")
            yield from self.some(at, form, between)
        return found

    def call(self, at):
        yield from self.seq(at, self.name, "(", self.listed(self.name), " | ", self.listed(self.place), " | ",
                            self.listed(self.amount), ")")

    def array(self, at):
        rest = (" from ", self.place, " to ", self.place)
        yield from self.seq(at, "full ", self.name, ":", self.name, " was ", self.name, *rest)
        yield from self.seq(at, "look ", self.name, ":", self.name, *rest)

    def notes(self, at):
        yield at
        yield from self.some(at, self.listed(self.top, " & "), "; ")

    def function(self, at):
        names, claims = self.listed(self.name), self.listed(self.top, " & ")
        yield from self.seq(at, self.name, "(", self.listed(self.array), " | ", names, " | ", names, ") with (", names, " | ", names,
                            ") before (", claims, ") after (", claims, ") notes (", self.notes, ") ", self.block(4))

    def functions(self, at):
        yield from self.some(at, self.function, "\n")

    def situation(self, frame):
        def cells(at):
            yield from self.seq(at, "-")
            yield from self.some(at, self.number, " ")

        def part(words, form):
            told = []
            for word in words:
                told += ([" "] if told else []) + [word + "=", form]
            return told or ["-"]

        def found(at):
            yield from self.seq(at, *part([array for array, _ in frame.arrays], cells), " | ",
                                *part(frame.positions, self.number), " | ", *part(frame.amounts, self.number))
        return found

"""Which questions follow, papers for the answers, and an asker that answers by what is known."""

from forkcells.base.frames import Frame
from forkcells.base.integers import require_undo
from forkcells.decide.strategies import finished_search, short_search
from forkcells.errors import InvalidClaim, InvalidFrame, InvalidOperation, Refused, TooMany
from forkcells.logic.claims import is_claim
from forkcells.solve.questions import Question
from forkcells.solve.trees import is_tree, require_question

MAX_MEMBERS = 16
MAX_FEW = 1000
MAX_KNOWN = 39
FALSE = ("or", ())


def follows(question):
    """Whether the question follows."""
    require_small(question)
    return finished_search(question).situation is None


def breaking(question):
    """A situation that breaks the question, as small as it can be told, or None if it follows."""
    require_small(question)
    found = finished_search(question).situation
    return None if found is None else question.small(found)


def paper(question):
    """The pair of "broken" and a situation that breaks the question, or of "follows" and a tree."""
    require_small(question)
    search = short_search(question)
    if search.situation is None:
        return ("follows", search.written())
    return ("broken", question.small(search.situation))


def is_paper(question, value):
    """Whether the value is a paper of the question, of any size."""
    require_question(question)
    if not isinstance(value, tuple) or len(value) != 2 or not isinstance(value[0], str):
        return False
    if value[0] == "broken":
        return question.is_broken_by(value[1])
    return value[0] == "follows" and is_tree(question, value[1])


class Asker:
    """Keeps claims that are known, and answers by them."""

    def __init__(self, frame):
        if not isinstance(frame, Frame):
            raise InvalidFrame("this is no frame")
        self._frame = frame
        self._claims = []

    @property
    def known(self):
        """The tuple of the claims that are known."""
        return tuple(self._claims)

    def tell(self, claim):
        """Makes a claim known, if some situation has all that is known then."""
        self._require_claim(claim)
        if len(self._claims) == MAX_KNOWN:
            raise InvalidOperation("39 claims are known")
        question = self._question_with(claim)
        require_small(question)
        search = short_search(question)
        if search.situation is None:
            raise Refused(search.written())
        self._claims.append(claim)
        return True

    def ask(self, claim):
        """Whether a claim follows: "yes", "no" if its not does, or "open"."""
        self._require_claim(claim)
        if follows(Question(self._frame, self.known, claim)):
            return "yes"
        # Its not can be too deep for a claim; with the claim itself given, nothing is true then.
        return "no" if follows(self._question_with(claim)) else "open"

    def why(self, claim):
        """A paper of the question whether a claim follows."""
        self._require_claim(claim)
        return paper(Question(self._frame, self.known, claim))

    def _require_claim(self, claim):
        if not is_claim(self._frame, claim):
            raise InvalidClaim("this is no claim for the frame")

    def _question_with(self, claim):
        return Question(self._frame, self.known + (claim,), FALSE)

    def undo(self, *, many=1):
        """Makes the last claims unknown, and returns them, the last one first."""
        require_undo(many, len(self._claims))
        kept = len(self._claims) - many
        undone = tuple(self._claims[kept:][::-1])
        del self._claims[kept:]
        return undone

    def twin(self):
        """An equal one that goes on by itself."""
        other = Asker(self._frame)
        other._claims = list(self._claims)
        return other

    def __contains__(self, value):
        # True is not 1 in a claim, so not every value that equals one is meant.
        return is_claim(self._frame, value) and value in self._claims

    def __len__(self):
        return len(self._claims)

    def __eq__(self, other):
        if not isinstance(other, Asker):
            return False
        return self._frame == other._frame and self._claims == other._claims

    def __str__(self):
        return f"asker with {len(self._claims)} claims"


def require_small(question):
    """An error, if it is no question, or has too many members or too great a few."""
    require_question(question)
    if len(question.members) > MAX_MEMBERS:
        raise TooMany(MAX_MEMBERS)
    if question.few > MAX_FEW:
        raise TooMany(MAX_FEW)

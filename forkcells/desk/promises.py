"""Claims of a desk, and verdicts of functions."""

from forkcells.base.frames import is_name
from forkcells.errors import Refused
from forkcells.pieces.kept import is_kept, is_orderless
from forkcells.use.contracts import stands_in

# For each word how many names stand behind it.
WORDS = {"kept": 1, "orderless": 1, "stands": 2, "forks": 2}


def is_promise(value):
    """Whether the value has the form of a claim of a desk."""
    if not isinstance(value, tuple) or len(value) == 0 or not isinstance(value[0], str):
        return False
    if value[0] not in WORDS or len(value) != WORDS[value[0]] + 1:
        return False
    return len([word for word in value[1:] if not is_name(word)]) == 0


def verdict_of(program, called):
    """The verdict of a function."""
    if not is_orderless(program, called):
        return "unordered"
    return "kept" if is_kept(program, called) else "broken"


def does_hold(table, verdicts, promise):
    """Whether a claim holds for functions with these verdicts."""
    word, names = promise[0], promise[1:]
    if len([called for called in names if called not in table]) > 0:
        return False
    if word == "kept":
        return verdicts[names[0]] == "kept"
    if word == "orderless":
        return verdicts[names[0]] != "unordered"
    if word == "forks":
        return names[1] in table[names[0]].callees
    return stands_in(table[names[0]], table[names[1]])


def require_promises(table, verdicts, promises):
    """An error for the first claim that does not hold."""
    for promise in promises:
        if not does_hold(table, verdicts, promise):
            raise Refused(promise)

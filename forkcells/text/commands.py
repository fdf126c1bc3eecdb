"""Commands of a shell, done on a desk, and the texts of their answers."""

from forkcells.base.frames import is_name
from forkcells.desk.promises import is_promise
from forkcells.pieces.kept import broken_questions
from forkcells.runs.outcomes import outcome
from forkcells.text.texts import read_functions, read_situation, write_function, write_situation
from forkcells.text.scanner import MAX_DIGITS
from forkcells.use.contracts import stands_in


def done(desk, command):
    """The answer to a command, or None for a value that is no command."""
    if not isinstance(command, str):
        return None
    word, blank, rest = command.partition(" ")
    if blank == "":
        return done_alone(desk, word)
    if rest == "":
        return None
    if word == "put":
        return news_text(desk.put(read_functions(rest)))
    if word == "demand" or word == "waive":
        return done_claim(desk, word, tuple(rest.split(" ")))
    if word == "undo" or word == "redo":
        return done_many(desk, word, rest)
    if word == "stands":
        return done_stands(desk, rest)
    if word == "run":
        return done_run(desk, rest)
    return done_name(desk, word, rest) if is_name(rest) else None


def done_alone(desk, word):
    """The answer to a command of one word."""
    if word == "undo":
        return news_text(desk.undo())
    if word == "redo":
        return news_text(desk.redo())
    if word == "names":
        return joined(list(desk.names))
    if word == "claims":
        return joined([" ".join(claim) for claim in desk.claims])
    verdicts = desk.verdicts
    return news_text(tuple(list(verdicts.items()))) if word == "verdicts" else None


def done_name(desk, word, called):
    """The answer to a command about a function."""
    if word == "take":
        return news_text(desk.take(called))
    if word == "show":
        return write_function(desk[called])
    if word == "callers":
        return joined(list(desk.callers(called)))
    if word != "broken":
        return None
    require_name(desk, called)
    return joined([f"{piece} {index}" for piece, index in broken_questions(desk.whole(), called)])


def done_claim(desk, word, claim):
    """The answer to a demand, or to the end of one."""
    if not is_promise(claim):
        return None
    return news_text(desk.demand(claim) if word == "demand" else desk.waive(claim))


def done_many(desk, word, rest):
    """The answer where so many changes are taken back or done again."""
    if not is_count(rest):
        return None
    return news_text(desk.undo(many=int(rest)) if word == "undo" else desk.redo(many=int(rest)))


def done_stands(desk, rest):
    """The answer to the question whether a function may stand in for another one."""
    one, _, other = rest.partition(" ")
    if not is_name(one) or not is_name(other):
        return None
    return "yes" if stands_in(desk[one], desk[other]) else "no"


def done_run(desk, rest):
    """The answer to a run."""
    called, _, text = rest.partition(" ")
    if not is_name(called) or text == "":
        return None
    situation = read_situation(desk[called].start_frame, text)
    return outcome_text(outcome(desk.whole(), called, situation))


def require_name(desk, called):
    """An error, if it is the name of no function of the desk."""
    desk.callers(called)


def is_count(text):
    """Whether the text is that of an integer of at least 0."""
    if len(text) > MAX_DIGITS or text == "" or (text[0] == "0" and text != "0"):
        return False
    return len([letter for letter in text if not "0" <= letter <= "9"]) == 0


def joined(texts):
    """Texts with a sign between them, or a word for none."""
    return "; ".join(texts) if len(texts) > 0 else "none"


def news_text(news):
    """The text of news; a function that is gone has no verdict."""
    return joined([f"{called} {shown_verdict(verdict)}" for called, verdict in news])


def shown_verdict(verdict):
    """A verdict, or a sign for none."""
    return "-" if verdict is None else verdict


def outcome_text(told):
    """The text of an outcome."""
    if told[0] == "done":
        return f"done {write_situation(told[1])}"
    if told[0] == "long":
        return "long"
    return "stuck " + "; ".join([stuck_text(path, called, row, fault) for path, called, row, fault in told[1]])


def stuck_text(path, called, row, fault):
    """The text of a function that is stuck."""
    where = ".".join([str(branch) for branch in path]) if len(path) > 0 else "-"
    words = " ".join([str(word) for word in fault])
    return f"{where} {called} {row} {words}"

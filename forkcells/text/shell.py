"""A shell: commands for a desk, with texts for answers."""

from forkcells.desk.desk import Desk
from forkcells.errors import (InvalidFunction, InvalidOperation, InvalidProgram, InvalidSituation, NothingToUndo,
                              ParseError, Refused, TooMany, UnknownName)
from forkcells.text.commands import done


class Shell:
    """A desk that is changed by commands; at first it is empty."""

    def __init__(self):
        self._desk = Desk()
        self._many = 0

    def __call__(self, command):
        return self.answer(command)

    def answer(self, command):
        """The answer to a command."""
        good, text = answered(self._desk, command)
        if good:
            self._many = self._many + 1
        return text

    def desk(self):
        """A twin of the desk."""
        return self._desk.twin()

    def __len__(self):
        return len(range(self._many))

    def __str__(self):
        return f"shell of {self._many} commands"


def answered(desk, command):
    """Whether a command was done without an error, and the answer."""
    try:
        text = done(desk, command)
    except UnknownName as unknown:
        return (False, f"unknown {unknown.name}")
    except ParseError as wrong:
        return (False, f"text {wrong.index}")
    except InvalidFunction:
        return (False, "function")
    except InvalidProgram:
        return (False, "program")
    except InvalidSituation:
        return (False, "situation")
    except Refused as refused:
        claim = " ".join(refused.reason)
        return (False, f"refused {claim}")
    except TooMany as more:
        return (False, f"many {more.bound}")
    except NothingToUndo as fewer:
        return (False, f"nothing {fewer.asked}")
    except InvalidOperation:
        return (False, "cannot")
    return (False, "what") if text is None else (True, text)

"""The functions, programs and situations that the document uses from part 3 on."""

from forkcells.code.functions import Function
from forkcells.code.programs import Program
from forkcells.world.situations import Situation

SET = Function("set", arrays=(("full", "p", "l", "pp", ("g", 0), ("g", 1)),), positions=("g",), values=("y",),
               rows=(("write", "p", "g", 0, ("y", 0)),))
CALLS = (("set", ("a",), (("", 0),), (("", 1),)), ("set", ("a",), (("i", 1),), (("", 2),)))
PAIR = Function("pair", arrays=(("full", "a", "n", "aa", ("", 0), ("n", 0)),), positions=("i",),
                rows=(("fork", CALLS),))
BOTH = Program((PAIR, SET))
ONES = Situation(PAIR.start_frame, {"a": (1, 1, 1)}, {"i": 0}, {})

WIDE = Function("wide", arrays=(("full", "p", "l", "pp", ("", 0), ("l", 0)),), positions=("g",), values=("y",),
                rows=(("write", "p", "g", 0, ("y", 0)),))
THREE = [("wide", ("a",), (("", 0),), (("", 1),)), ("wide", ("a",), (("", 0),), (("", 2),)),
         ("wide", ("a",), (("", 1),), (("", 2),))]
HEADING = (("full", "a", "n", "aa", ("", 0), ("n", 0)),)
ONECELL = Program((WIDE, Function("two", arrays=HEADING, rows=(("fork", (THREE[0], THREE[1])),))))
TWOCELLS = Program((WIDE, Function("two", arrays=HEADING, rows=(("fork", (THREE[0], THREE[2])),))))
NOUGHTS = Situation(ONECELL["two"].start_frame, {"a": (0, 0)}, {}, {})

# A function with two arrays of one length, a look one among them, and all kinds of rows.
UPTO = ("all", ("k",), ("in", "k", ("s", 0), ("i", 0)), ("val", "==", ("a", "k", 0, 0), ("b", "k", 0, 0)))
COPY = Function(
    "copy",
    arrays=(("full", "a", "n", "old", ("s", 0), ("t", 0)), ("look", "b", "n", ("s", 0), ("t", 0))),
    positions=("s", "t"), values=("x",), places=("i",), numbers=("v",),
    rows=(
        ("move", "i", ("s", 0)),
        ("while", ("pos", "<", ("i", 0), ("t", 0)), (
            ("keep", "v", ("b", "i", 0, 0)),
            ("if", ("val", "<", ("v", 0), ("x", 0)), (("write", "a", "i", 0, ("v", 0)),), (
                ("write", "a", "i", 0, ("x", 0)),)),
            ("move", "i", ("i", 1)))),
        ("keep", "v", ("x", 1))),
    notes=((UPTO, ("pos", "<=", ("s", 0), ("i", 0))),),
    before=(("pos", "<=", ("s", 0), ("t", 0)),),
    after=(("all", ("i",), ("in", "i", ("t", 0), ("n", 0)), ("val", "==", ("a", "i", 0, 0), ("old", "i", 0, 0))),))

# Two functions of which one forks the other one for both halves of its array; both are kept.
FILLED = ("all", ("k",), ("in", "k", ("s", 0), ("i", 0)), ("val", "==", ("a", "k", 0, 0), ("x", 0)))
DONE = ("all", ("k",), ("in", "k", ("s", 0), ("t", 0)), ("val", "==", ("a", "k", 0, 0), ("x", 0)))
SPAN = ("and", (("pos", "<=", ("", 0), ("s", 0)), ("pos", "<=", ("t", 0), ("n", 0))))
LOOP = ("while", ("pos", "<", ("i", 0), ("t", 0)), (("write", "a", "i", 0, ("x", 0)), ("move", "i", ("i", 1))))
FILL = Function(
    "fill", arrays=(("full", "a", "n", "old", ("s", 0), ("t", 0)),), positions=("s", "t"), values=("x",), places=("i",),
    rows=(("move", "i", ("s", 0)), LOOP),
    notes=((FILLED, SPAN, ("pos", "<=", ("s", 0), ("i", 0)), ("pos", "<=", ("i", 0), ("t", 0))),),
    before=(SPAN, ("pos", "<=", ("s", 0), ("t", 0))), after=(DONE,))
PARTS = (("fill", ("b",), (("", 0), ("h", 0)), (("", 1),)), ("fill", ("b",), (("h", 0), ("m", 0)), (("", 2),)))
HALVES = Function(
    "halves", arrays=(("full", "b", "m", "was", ("", 0), ("m", 0)),), positions=("h",), rows=(("fork", PARTS),),
    before=(("pos", "<=", ("", 0), ("h", 0)), ("pos", "<=", ("h", 0), ("m", 0))),
    after=(("or", (("pos", "<=", ("h", 0), ("", 0)), ("val", "==", ("b", "", 0, 0), ("", 1)))),))
TWO = Program((FILL, HALVES))
OVER = (("fill", ("b",), (("", 0), ("h", 1)), (("", 1),)), ("fill", ("b",), (("h", 0), ("m", 0)), (("", 2),)))
LOOSE = TWO.with_function(HALVES.with_rows((("fork", OVER),), ()))

"""Questions near the limits, by name: pairs of whether they follow, and the question."""

from itertools import combinations

from forkcells.base.frames import Frame
from forkcells.solve.questions import Question

NOUGHT, END = ("", 0), ("n", 0)


def at(word, number=0):
    return (word, number)


def cell(array, term, number=0):
    return (array,) + term + (number,)


def le(one, other):
    return ("pos", "<=", one, other)


def lt(one, other):
    return ("pos", "<", one, other)


def vle(one, other):
    return ("val", "<=", one, other)


def vlt(one, other):
    return ("val", "<", one, other)


def veq(one, other):
    return ("val", "==", one, other)


def unlike(one, other):
    return ("not", veq(one, other))


def both(*parts):
    return ("and", parts)


def some(*parts):
    return ("or", parts)


FALSE = some()


def between(low, high, body):
    return ("all", ("k",), ("in", "k", low, high), body)


def ascending(array, low, high):
    guard = both(("in", "k", low, high), ("in", "kk", low, high), le(at("k"), at("kk")))
    return ("all", ("k", "kk"), guard, vle(cell(array, at("k")), cell(array, at("kk"))))


def steps(words, compare):
    return tuple([compare(at(one), at(other)) for one, other in zip(words, words[1:])])


def inside(words):
    return tuple([both(le(NOUGHT, at(word)), lt(at(word), END)) for word in words])


def written(old, new, term, value):
    """What a write says, as in [6.4]."""
    word, number = term
    apart = some(le(at("k"), (word, number - 1)), le((word, number + 1), at("k")))
    return (veq((new, word, number, 0), value),
            ("all", ("k",), apart, veq(cell(new, at("k")), cell(old, at("k")))))


def pieces_ascending(many, proper):
    """Segments that overlap, or only touch, ascend one by one: the whole ascends, or need not."""
    words = "bcdefghi"[:many + 1]
    frame = Frame((("a", "n"),), tuple(words), ("x",))
    given = steps(words, lt)
    given += tuple([ascending("a", at(one), at(other, 1 if proper else 0)) for one, other in zip(words, words[1:])])
    return proper, Question(frame, given, ascending("a", at(words[0]), at(words[-1])))


def writes(many, proper):
    """So many writes of x into a row of cells that are at most x: all still are, or are x."""
    arrays = ["v", "wa", "wb", "wc", "wd", "we"][:many + 1]
    words = "pqrst"[:many]
    frame = Frame(tuple([(array, "n") for array in arrays]), tuple(words), ("x",))
    given = (between(NOUGHT, END, vle(cell("v", at("k")), at("x"))),)
    for k in range(many):
        given += written(arrays[k], arrays[k + 1], at(words[k]), at("x"))
    body = vle if proper else veq
    return proper, Question(frame, given, between(NOUGHT, END, body(cell(arrays[-1], at("k")), at("x"))))


def three_branches(proper):
    """A fork with three branches that write thirds of an array, by [6.5]; all is x behind it, or y."""
    frame = Frame(tuple([(array, "n") for array in ("a", "wa", "wb", "wc", "wd")]), ("g", "h"), ("x", "y"))
    rights = ((NOUGHT, at("g")), (at("g"), at("h")), (at("h"), END))
    given = (le(NOUGHT, at("g")), le(at("g"), at("h")), le(at("h"), END))
    outsides = []
    for (low, high), array in zip(rights, ("wa", "wb", "wc")):
        outside = some(("in", "k", NOUGHT, low), le(high, at("k")))
        outsides.append(outside)
        given += (("all", ("k",), outside, veq(cell(array, at("k")), cell("a", at("k")))),
                  between(low, high, veq(cell(array, at("k")), at("x"))),
                  between(low, high, veq(cell("wd", at("k")), cell(array, at("k")))))
    given += (("all", ("k",), both(*outsides), veq(cell("wd", at("k")), cell("a", at("k")))),)
    value = at("x") if proper else at("y")
    return proper, Question(frame, given, between(NOUGHT, END, veq(cell("wd", at("k")), value)))


def partition(proper):
    """A step of a partition: a cell of the left is exchanged with one of the right."""
    frame = Frame((("a", "n"), ("wa", "n"), ("wb", "n")), ("i", "j"), ("x", "t"))
    given = (le(NOUGHT, at("i")), lt(at("i"), at("j")), le(at("j"), END),
             between(NOUGHT, at("i"), vle(cell("a", at("k")), at("x"))),
             between(at("j"), END, vlt(at("x"), cell("a", at("k")))),
             vlt(at("x"), cell("a", at("i"))), veq(at("t"), cell("a", at("i"))))
    given += written("a", "wa", at("i"), cell("a", at("j", -1))) + written("wa", "wb", at("j", -1), at("t"))
    goal = both(between(NOUGHT, at("i"), vle(cell("wb", at("k")), at("x"))),
                between(at("j", -1 if proper else -2), END, vlt(at("x"), cell("wb", at("k")))))
    return proper, Question(frame, given, goal)


def insertion(proper):
    """A value is put into a gap of a row that ascends."""
    frame = Frame((("a", "n"), ("w", "n")), ("i", "j"), ("x",))
    behind = (at("j", 1), at("i", 1))
    guard = both(("in", "k", NOUGHT, at("j")), ("in", "kk") + behind)
    given = (le(NOUGHT, at("j")), le(at("j"), at("i")), lt(at("i"), END),
             ascending("a", NOUGHT, at("j")), ascending("a", behind[0], behind[1]),
             ("all", ("k", "kk"), guard, vle(cell("a", at("k")), cell("a", at("kk")))),
             between(behind[0], behind[1], vlt(at("x"), cell("a", at("k")))))
    if proper:
        given += (some(("pos", "==", at("j"), NOUGHT), vle(cell("a", at("j", -1)), at("x"))),)
    given += written("a", "w", at("j"), at("x"))
    return proper, Question(frame, given, ascending("w", NOUGHT, at("i", 1)))


def least_of_all(many):
    """One of the cells is the least of all, so one of them is at most each other one."""
    words = "bcdefghi"[:many]
    frame = Frame((("a", "n"),), tuple(words), ("x",))
    given = (some(*[both(veq(cell("a", at(word)), at("x")), inside(word)[0]) for word in words]),
             between(NOUGHT, END, vle(at("x"), cell("a", at("k"))))) + inside(words)
    goal = some(*[both(*[vle(cell("a", at(one)), cell("a", at(other))) for other in words]) for one in words])
    return True, Question(frame, given, goal)


def two_values(many):
    """Cells with two values, of which neighbors are unlike."""
    words = "bcdefghi"[:many]
    frame = Frame((("a", "n"),), tuple(words), ())
    given = (between(NOUGHT, END, some(veq(cell("a", at("k")), NOUGHT), veq(cell("a", at("k")), at("", 1)))),)
    given += inside(words)
    given += tuple([unlike(cell("a", at(one)), cell("a", at(other))) for one, other in zip(words, words[1:])])
    return many % 2 == 1, Question(frame, given, veq(cell("a", at(words[0])), cell("a", at(words[-1]))))


def too_narrow(many, room):
    """So many positions that differ in so much room."""
    words = "bcdefghi"[:many]
    frame = Frame((), tuple(words), ())
    given = tuple([both(le(NOUGHT, at(word)), lt(at(word), at("", room))) for word in words])
    given += tuple([("not", ("pos", "==", at(one), at(other))) for one, other in combinations(words, 2)])
    return room < many, Question(frame, given, FALSE)


def steps_of_values(many):
    """A chain of cells in which each step is one of two."""
    frame = Frame((("a", "n"),), ("i",), ("x",))
    given = tuple([some(vlt(cell("a", at("i", k)), cell("a", at("i", k + 1))),
                        vlt(cell("a", at("i", k), 1), cell("a", at("i", k + 1)))) for k in range(many)])
    return True, Question(frame, given, vlt(cell("a", at("i", 0)), cell("a", at("i", many))))


def without_least(many):
    """Each of the positions has a lesser one."""
    words = "bcdefghi"[:many]
    frame = Frame((), tuple(words), ())
    given = tuple([some(*[lt(at(other), at(word)) for other in words if other != word]) for word in words])
    return True, Question(frame, given, FALSE)


def many_ors(proper):
    """Forty given claims; most of them, ors of two, have nothing to do with the wanted one."""
    words = "bcdefgh"
    frame = Frame((("a", "n"), ("o", "n")), tuple(words), ("x", "y"))
    given = ()
    for k in range(37):
        one, other = words[k % 5], words[(k * 3 + 1) % 5]
        given += (some(lt(at(one), at(other, k % 3)), vle(cell("a", at(one)), at("y", k % 4))),)
    given += (between(NOUGHT, at("g"), vle(cell("o", at("k")), at("x"))), le(at("h"), at("g")))
    given += (vle(cell("o", at("g")), at("x")),) if proper else ()
    return proper, Question(frame, given, between(NOUGHT, at("h", 1), vle(cell("o", at("k")), at("x"))))


def many_alls(proper):
    """Twelve arrays that ascend, each one below the next one."""
    arrays = ["w" + letter for letter in "abcdefghijkl"]
    frame = Frame(tuple([(array, "n") for array in arrays]), ("i", "j"), ("x",))
    given = tuple([ascending(array, NOUGHT, END) for array in arrays])
    given += tuple([between(NOUGHT, END, vle(cell(one, at("k")), cell(other, at("k"))))
                    for one, other in zip(arrays, arrays[1:])])
    given += inside("ij") + ((le(at("i"), at("j")),) if proper else ())
    return proper, Question(frame, given, vle(cell("wa", at("i")), cell("wl", at("j"))))


def new_ones(proper):
    """Twelve negative alls: with those of the lengths, fifteen members."""
    frame = Frame((("a", "n"),), ("i",), ("x",))
    given = tuple([("not", between(NOUGHT, END, vlt(cell("a", at("k")), at("x", k)))) for k in range(12)])
    most = 10 if proper else 11
    return proper, Question(frame, given + (between(NOUGHT, END, vle(cell("a", at("k")), at("x", most))),), FALSE)


def far_apart(proper):
    """Great numbers: the few is 905."""
    frame = Frame((("a", "n"),), ("i", "j", "p", "q"), ("x",))
    given = (le(NOUGHT, at("i")), le(at("i", 90), at("j")), le(at("j"), END),
             le(NOUGHT, at("p")), le(at("p", 80), at("q")), le(at("q"), END),
             between(at("i"), at("j"), vle(cell("a", at("k")), at("x"))),
             between(at("p"), at("q"), vlt(at("x"), cell("a", at("k")))))
    return proper, Question(frame, given, some(le(at("j"), at("p")), le(at("q", 0 if proper else 1), at("i"))))


HARD = {
    "pieces of six": pieces_ascending(6, True), "pieces of seven": pieces_ascending(7, True),
    "pieces that touch": pieces_ascending(6, False), "four writes": writes(4, True),
    "four wrong writes": writes(4, False), "three branches": three_branches(True),
    "three wrong branches": three_branches(False), "partition": partition(True),
    "wrong partition": partition(False), "insertion": insertion(True), "wrong insertion": insertion(False),
    "least of six": least_of_all(6), "least of eight": least_of_all(8), "two values": two_values(7),
    "two wrong values": two_values(8), "six in five": too_narrow(6, 5), "six in six": too_narrow(6, 6),
    "eleven steps": steps_of_values(11), "seven without least": without_least(7), "forty given": many_ors(True),
    "wrong with many": many_ors(False), "many alls": many_alls(True), "many alls, wrong": many_alls(False),
    "new ones": new_ones(True), "new ones, wrong": new_ones(False), "far apart": far_apart(True),
    "far apart, wrong": far_apart(False),
}

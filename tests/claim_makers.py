"""Random claims for the functions of random programs."""

from forkcells.code.programs import Program
from makers import ProgramMaker
from samples import Maker

# Among these are locals, was names and versions of the programs that are made.
OWNS = ("k", "kk", "q", "p", "v", "w", "oa", "ob", "aa", "bb", "uu", "wa", "wc", "e")


class OwnMaker(Maker):
    """Claims whose own names can stand for something else in another frame."""

    def all(self):
        fresh = [word for word in OWNS if self.frame.is_fresh(word)]
        own = tuple(self.rng.sample(fresh, self.rng.choice([1, 1, 2])))
        return ("all", own, self.guard(own), self.body(own))


def with_claims(program, seed, most=2, depth=1):
    """The program with random notes and contracts."""
    made = []
    for k, function in enumerate(program):
        frames = (function.start_frame, function.frame, function.end_frame)
        makers = [OwnMaker(frame, seed * 10 + k) for frame in frames]

        def some(maker):
            return tuple([maker.claim(depth) for _ in range(maker.rng.randrange(most + 1))])
        before, after = some(makers[0]), some(makers[2])
        notes = tuple([some(makers[1]) for _ in function.notes])
        made.append(function.with_rows(function.rows, notes).with_contract(before, after))
    return Program(tuple(made))


def claimed_program(seed, wide=0.5, neat=False):
    """A program with claims, and its maker."""
    maker = ProgramMaker(seed, wide)
    program = maker.neat_program() if neat else maker.program()
    return with_claims(program, seed), maker

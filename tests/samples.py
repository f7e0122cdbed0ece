"""Hedges to test on, made without the program."""

import itertools
import random


def count_parts(many, rods):
    """How many parts the knots hang together in: found by spreading from knot to knot."""
    left = set(range(many))
    parts = 0
    while left:
        parts += 1
        edge = {min(left)}
        while edge:
            left -= edge
            edge = {b if a in edge else a for a, b in rods if (a in edge) != (b in edge)} & left
    return parts


def all_hedges(many):
    """Every hedge of so many knots."""
    rods = list(itertools.combinations(range(many), 2))
    picks = itertools.combinations(rods, many - 1)
    return [(many, list(pick)) for pick in picks if count_parts(many, pick) == 1]


def small_hedges():
    return [hedge for many in range(1, 6) for hedge in all_hedges(many)]


def row(many):
    return (many, [(knot, knot + 1) for knot in range(many - 1)])


def star(many):
    return (many, [(0, knot) for knot in range(1, many)])


def last_star(many):
    return (many, [(knot, many - 1) for knot in range(many - 1)])


def grown(many, seed):
    """A hedge grown knot by knot, its knots then numbered by lot (the same lot each time)."""
    lot = random.Random(seed)
    names = list(range(many))
    lot.shuffle(names)
    rods = []
    for knot in range(1, many):
        ends = (names[knot], names[lot.randrange(knot)])
        rods.append((min(ends), max(ends)))
    return (many, sorted(rods))


def large_hedges():
    made = [row(40), star(40), last_star(40), row(39), star(39)]
    return made + [grown(many, seed) for seed, many in enumerate([6, 7, 9, 10, 11, 17, 28, 39, 40, 40, 40])]


class Sulky:
    """An object that can't be compared, counted, walked, shown or asked for its truth."""

    def refuse(self, *others):
        raise RuntimeError("asked a sulky object")

    __eq__ = __ne__ = __lt__ = __le__ = __gt__ = __ge__ = refuse
    __len__ = __iter__ = __bool__ = __getitem__ = __contains__ = refuse
    __hash__ = __index__ = __int__ = __str__ = __repr__ = refuse


def odd_things():
    """Things of all kinds: none is a hedge, a number of knots, a rod, a knot, or a text that a hedge is written as."""
    looped = []
    looped.append(looped)
    return [
        None, True, False, 1.0, 0.5, float("nan"), float("inf"), 1j, -1, 10 ** 5000,
        "", "hedge", "(1, [])", b"", b"1", bytearray(b"1"), (), [], {}, set(), frozenset(), looped,
        [1, []], {0: 1, 1: []}, {1, 2}, range(2), iter([1, []]), object(), Sulky(), int, len, lambda: 1,
        ValueError("1"),
    ]

"""Hedges to test on, made without the program."""

import copy
import itertools
import random


def count_parts(many, rods):
    """How many parts the knots hang together in: found by spreading from knot to knot."""
    left = set(range(many))
    parts = 0
    while left:
        parts += 1
        edge = {min(left)}
        while edge:
            left -= edge
            edge = {b if a in edge else a for a, b in rods if (a in edge) != (b in edge)} & left
    return parts


def all_hedges(many):
    """Every hedge of so many knots."""
    rods = list(itertools.combinations(range(many), 2))
    picks = itertools.combinations(rods, many - 1)
    return [(many, list(pick)) for pick in picks if count_parts(many, pick) == 1]


def small_hedges():
    return [hedge for many in range(1, 6) for hedge in all_hedges(many)]


def row(many):
    return (many, [(knot, knot + 1) for knot in range(many - 1)])


def star(many):
    return (many, [(0, knot) for knot in range(1, many)])


def last_star(many):
    return (many, [(knot, many - 1) for knot in range(many - 1)])


def grown(many, seed):
    """A hedge grown knot by knot, its knots then numbered by lot (the same lot each time)."""
    lot = random.Random(seed)
    names = list(range(many))
    lot.shuffle(names)
    rods = []
    for knot in range(1, many):
        ends = (names[knot], names[lot.randrange(knot)])
        rods.append((min(ends), max(ends)))
    return (many, sorted(rods))


def large_hedges():
    made = [row(40), star(40), last_star(40), row(39), star(39)]
    return made + [grown(many, seed) for seed, many in enumerate([6, 7, 9, 10, 11, 17, 28, 39, 40, 40, 40])]


def beside(hedge, knot):
    return [other for other in range(hedge[0]) if (min(knot, other), max(knot, other)) in hedge[1]]


def all_lengths(hedge):
    """The lengths between all knots, by trying each knot as a stop between each two."""
    many = hedge[0]
    far = [[0 if a == b else 1 if b in beside(hedge, a) else many for b in range(many)] for a in range(many)]
    for stop in range(many):
        for a in range(many):
            for b in range(many):
                far[a][b] = min(far[a][b], far[a][stop] + far[stop][b])
    return far


def all_ways(hedge):
    """For each knot and each other one (and itself) the way between them, by walking on from knot to knot."""
    found = {}
    edge = [[knot] for knot in range(hedge[0])]
    while edge:
        for steps in edge:
            found[steps[0], steps[-1]] = steps
        edge = [steps + [near] for steps in edge for near in beside(hedge, steps[-1]) if near not in steps]
    return found


def grown_hedges(many):
    """All hedges in which each knot is hung from one of a lesser number: every shape is among them."""
    hung_from = itertools.product(*[range(knot) for knot in range(1, many)])
    return [(many, sorted((over, at + 1) for at, over in enumerate(overs))) for overs in hung_from]


def renumbered(hedge, names):
    """The hedge in which each knot has another number, which the names tell."""
    rods = [(names[a], names[b]) for a, b in hedge[1]]
    return (hedge[0], sorted((min(rod), max(rod)) for rod in rods))


def lot_of(many, seed):
    """The knots in an order by lot (the same lot each time)."""
    names = list(range(many))
    random.Random(seed).shuffle(names)
    return names


def first_form(hedge):
    """The first of all hedges that the knots numbered in any order make: hedges of one shape have it in common."""
    return min(renumbered(hedge, names) for names in itertools.permutations(range(hedge[0])))


def lists_within(thing):
    """The lists in a thing, itself and those within lists and tuples."""
    found = [thing] if isinstance(thing, list) else []
    if isinstance(thing, (list, tuple)):
        for part in thing:
            found += lists_within(part)
    return found


def assert_told_anew(case, ask, *given):
    """What is handed in stays as it was; lists told are new, and emptied they are told again as they were."""
    before = copy.deepcopy(given)
    first = ask(*given)
    kept = copy.deepcopy(first)
    second = ask(*given)
    case.assertEqual(second, kept)
    lists = lists_within(given) + lists_within(first) + lists_within(second)
    case.assertEqual(len({id(one) for one in lists}), len(lists))
    for told in lists_within(first):
        told.clear()
    case.assertEqual(given, before)
    case.assertEqual(second, kept)
    case.assertEqual(ask(*given), kept)
    case.assertEqual(repr(ask(*given)), repr(kept))


class Sulky:
    """An object that can't be compared, counted, walked, shown or asked for its truth."""

    def refuse(self, *others):
        raise RuntimeError("asked a sulky object")

    __eq__ = __ne__ = __lt__ = __le__ = __gt__ = __ge__ = refuse
    __len__ = __iter__ = __bool__ = __getitem__ = __contains__ = refuse
    __hash__ = __index__ = __int__ = __str__ = __repr__ = refuse


def odd_things():
    """Things of all kinds: none is a hedge, a number of knots, a rod, a knot, or a text that a hedge is written as."""
    looped = []
    looped.append(looped)
    return [
        None, True, False, 1.0, 0.5, float("nan"), float("inf"), 1j, -1, 10 ** 5000,
        "", "hedge", "(1, [])", b"", b"1", bytearray(b"1"), (), [], {}, set(), frozenset(), looped,
        [1, []], {0: 1, 1: []}, {1, 2}, range(2), iter([1, []]), object(), Sulky(), int, len, lambda: 1,
        ValueError("1"),
    ]

"""Pairing: rods without a common knot, and knots that guard all rods."""

from hedgerow.hedges import walk_from


def pairs_by_guard(hedge):
    # From the tips on, a knot is paired with the one it hangs from where both are free. The latter is a guard: a rod
    # that is left out has a guard, since no knot is taken from below ahead of its own step. So pairs and guards are
    # equally many, and neither more pairs nor fewer guards can be: each pair needs a guard of its own.
    taken = [False] * hedge[0]
    found = {}
    for knot, over in reversed(walk_from(hedge, 0)):
        if over is not None and not taken[knot] and not taken[over]:
            taken[knot] = True
            taken[over] = True
            found[over] = (min(knot, over), max(knot, over))
    return found


def pairs(hedge):
    return sorted(pairs_by_guard(hedge).values())


def guards(hedge):
    return sorted(pairs_by_guard(hedge))

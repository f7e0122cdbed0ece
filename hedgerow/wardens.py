"""Wardens: knots that watch all knots, and knots too far from one another to have a common warden."""

from hedgerow.hedges import neighbours, walk_from


def wardens_by_lonely(hedge):
    # From the tips on, a knot without a warden is made lonely, and the knot it hangs from its warden. All knots within
    # two rods of it that are still to come are then watched, so none of them is made lonely. Wardens and lonely knots
    # are thus equally many, and neither fewer nor more can be: each lonely knot needs a warden of its own.
    beside = neighbours(hedge)
    watched = [False] * hedge[0]
    found = {}
    for knot, over in reversed(walk_from(hedge, 0)):
        if not watched[knot]:
            warden = knot if over is None else over
            found[knot] = warden
            watched[warden] = True
            for near in beside[warden]:
                watched[near] = True
    return found


def wardens(hedge):
    return sorted(wardens_by_lonely(hedge).values())


def lonely(hedge):
    return sorted(wardens_by_lonely(hedge))

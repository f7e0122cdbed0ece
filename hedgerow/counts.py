"""Counts: sets of knots without neighbours, and colours by which neighbours are unlike."""

from hedgerow.hedges import lengths, walk_from
from hedgerow.pairing import guards


def apart_sets(hedge):
    # For each knot, the sets within what hangs from it and the knot itself: those that have the knot, those without.
    having = [1] * hedge[0]
    without = [1] * hedge[0]
    for knot, over in reversed(walk_from(hedge, 0)):
        if over is not None:
            having[over] *= without[knot]
            without[over] *= having[knot] + without[knot]
    return having[0] + without[0]


def greatest_apart(hedge):
    # A set is apart just if the knots outside it guard all rods, so as few guards as can be leave the most.
    guarding = guards(hedge)
    return [knot for knot in range(hedge[0]) if knot not in guarding]


def colourings(hedge, colours):
    # The first knot has any colour, each other one any but that of the knot it hangs from.
    ways = colours
    for rod in hedge[1]:
        ways *= colours - 1
    return ways


def coloured(hedge):
    return [length % 2 for length in lengths(hedge, 0)]

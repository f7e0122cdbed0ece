"""Nets: the rods that join some knots, and the knot where the ways between three meet."""

from hedgerow.balance import branch
from hedgerow.hedges import way


def net(hedge, knots):
    places = []
    for at, rod in enumerate(hedge[1]):
        side = branch(hedge, rod[1], rod[0])
        inside = [knot for knot in knots if knot in side]
        # A rod lies on a way between two of the knots just if both its sides have some of them.
        if 0 < len(inside) < len(knots):
            places.append(at)
    return places


def gate(hedge, one, other, third):
    second = way(hedge, other, third)
    last = way(hedge, one, third)
    common = [knot for knot in way(hedge, one, other) if knot in second and knot in last]
    return common[0]

"""Middles: how far knots reach, the knots that reach least, and the long way."""

from hedgerow.hedges import lengths, way


def reaches(hedge):
    return [max(lengths(hedge, knot)) for knot in range(hedge[0])]


def middle(hedge):
    far = reaches(hedge)
    least = min(far)
    return [knot for knot, reach in enumerate(far) if reach == least]


def long_way(hedge):
    far = reaches(hedge)
    longest = max(far)
    # Of lists the one with the least first knot is first, so ways from other knots need no look.
    start = far.index(longest)
    ends = [knot for knot, length in enumerate(lengths(hedge, start)) if length == longest]
    return min([way(hedge, start, end) for end in ends])

"""Shapes: the codes of all hedges of a size."""

from hedgerow.codes import code, hedge_read
from hedgerow.deeds import hung


def grown(codes):
    found = {}
    for text in codes:
        hedge = hedge_read(text)
        for knot in range(hedge[0]):
            found[code(hung(hedge, knot))] = True
    return sorted(found)


def shapes(many):
    if many < 1:
        return []
    # Each hedge of two or more knots has a tip, so it is one of a knot less with a knot hung on.
    codes = ["()"]
    for size in range(1, many):
        codes = grown(codes)
    return codes

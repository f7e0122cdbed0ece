"""Deeds: knots hung on and cut off, hedges joined and parted."""

from hedgerow.balance import branch
from hedgerow.errors import NoTip, TooBig, TooSmall
from hedgerow.hedges import MOST_KNOTS, tips


def hung(hedge, knot):
    many = hedge[0]
    if many >= MOST_KNOTS:
        raise TooBig("no knot can be hung on, the hedge has as many as may be")
    return (many + 1, sorted(hedge[1] + [(knot, many)]))


def part_of(hedge, knots):
    # The knots rise, so the rods between them rise too when they are numbered anew.
    rods = []
    for less, more in hedge[1]:
        if less in knots and more in knots:
            rods.append((knots.index(less), knots.index(more)))
    return (len(knots), rods)


def cut_off(hedge, knot):
    if hedge[0] <= 1:
        raise TooSmall("the one knot of a hedge can't be cut off")
    if knot not in tips(hedge):
        raise NoTip("a knot that is no tip can't be cut off")
    return part_of(hedge, [other for other in range(hedge[0]) if other != knot])


def joined(one, knot, other, place):
    grown = one[0]
    if grown + other[0] > MOST_KNOTS:
        raise TooBig("the two hedges have more knots than may be")
    moved = [(less + grown, more + grown) for less, more in other[1]]
    return (grown + other[0], sorted(one[1] + moved + [(knot, place + grown)]))


def parted(hedge, at):
    rod = hedge[1][at]
    first = branch(hedge, rod[1], rod[0])
    second = branch(hedge, rod[0], rod[1])
    return (part_of(hedge, first), part_of(hedge, second))

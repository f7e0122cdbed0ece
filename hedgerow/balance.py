"""Balance: sums of lengths, branches and how many knots they have."""

from hedgerow.hedges import lengths, neighbours


def sums(hedge):
    return [sum(lengths(hedge, knot)) for knot in range(hedge[0])]


def balance(hedge):
    told = sums(hedge)
    least = min(told)
    return [knot for knot, total in enumerate(told) if total == least]


def branch(hedge, knot, near):
    # Without a ring no knot is equally far from two neighbours: what is nearer to the second lies behind it.
    from_knot = lengths(hedge, knot)
    from_near = lengths(hedge, near)
    return [other for other in range(hedge[0]) if from_near[other] < from_knot[other]]


def heaviest(hedge, knot):
    beside = neighbours(hedge)[knot]
    return max([len(branch(hedge, knot, near)) for near in beside], default=0)


def spread(hedge):
    # The sums have each pair twice, once from each end.
    return sum(sums(hedge)) // 2

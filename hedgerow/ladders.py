"""Ladders: each knot put below another one, in few steps up to the top."""

from hedgerow.balance import balance, branch
from hedgerow.deeds import part_of
from hedgerow.hedges import neighbours


def ladder(hedge):
    rungs = [None] * hedge[0]
    waiting = [(list(range(hedge[0])), None)]
    while waiting:
        step = waiting.pop()
        knots = step[0]
        # Numbered anew in their order, the least knot of a part is still the least.
        part = part_of(hedge, knots)
        top = balance(part)[0]
        rungs[knots[top]] = step[1]
        for near in neighbours(part)[top]:
            below = [knots[place] for place in branch(part, top, near)]
            waiting.append((below, knots[top]))
    return rungs


def above(rungs, knot):
    found = [knot]
    while rungs[found[-1]] is not None:
        found.append(rungs[found[-1]])
    return found


def first_common(rungs, one, other):
    over = above(rungs, other)
    common = [knot for knot in above(rungs, one) if knot in over]
    return common[0]

"""Hedges: what is one, which knots are neighbours, and the ways between knots."""

from hedgerow.errors import BadHedge

MOST_KNOTS = 40


def is_number(thing):
    # Python takes True and False for whole numbers; here they are none.
    return isinstance(thing, int) and not isinstance(thing, bool)


def is_hedge_form(thing):
    if not isinstance(thing, tuple) or len(thing) != 2:
        return False
    many = thing[0]
    if not is_number(many) or many < 1 or many > MOST_KNOTS:
        return False
    return isinstance(thing[1], list) and len(thing[1]) == many - 1


def is_rod(thing, many):
    if not isinstance(thing, tuple) or len(thing) != 2:
        return False
    if not is_number(thing[0]) or not is_number(thing[1]):
        return False
    return 0 <= thing[0] < thing[1] < many


def merged(homes, rod):
    kept = homes[rod[0]]
    lost = homes[rod[1]]
    return [kept if home == lost else home for home in homes]


def checked(hedge):
    if not is_hedge_form(hedge):
        raise BadHedge(None)
    many = hedge[0]
    rods = []
    # Knots that hang together so far have one home; a rod within one home closes a ring.
    homes = list(range(many))
    for at, rod in enumerate(hedge[1]):
        if not is_rod(rod, many):
            raise BadHedge(at)
        if rods and rod <= rods[-1]:
            raise BadHedge(at)
        if homes[rod[0]] == homes[rod[1]]:
            raise BadHedge(at)
        homes = merged(homes, rod)
        rods.append(rod)
    return (many, rods)


def neighbours(hedge):
    beside = [[] for knot in range(hedge[0])]
    # Rods rise, so the lesser neighbours of a knot come first, and all of them rising: no sorting is needed.
    for less, more in hedge[1]:
        beside[less].append(more)
        beside[more].append(less)
    return beside


def tips(hedge):
    return [knot for knot, near in enumerate(neighbours(hedge)) if len(near) <= 1]


def walk_from(hedge, top):
    # Each step is a knot and the one it hangs from, which has its own step ahead: walked backwards, all that hangs
    # from a knot is done before the knot. No step calls another one, so a long row goes no deeper than a short one.
    beside = neighbours(hedge)
    steps = [(top, None)]
    at = 0
    while at < len(steps):
        step = steps[at]
        for near in beside[step[0]]:
            if near != step[1]:
                steps.append((near, step[0]))
        at += 1
    return steps


def lengths(hedge, knot):
    far = [0] * hedge[0]
    for here, over in walk_from(hedge, knot):
        if over is not None:
            far[here] = far[over] + 1
    return far


def way(hedge, one, other):
    beside = neighbours(hedge)
    far = lengths(hedge, other)
    found = [one]
    while found[-1] != other:
        here = found[-1]
        # Without a ring just one neighbour is nearer to the other end.
        nearer = [near for near in beside[here] if far[near] < far[here]]
        found.append(nearer[0])
    return found

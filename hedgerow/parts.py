"""Parts: rods cut so that no part is too big for a room, and the parts that a cut leaves."""

from hedgerow.hedges import merged, walk_from


def place_of(hedge, one, other):
    return hedge[1].index((min(one, other), max(one, other)))


def cut(hedge, room):
    # From the tips on, where too much hangs together at a knot, the heaviest branches go: the fewest cuts, and what is
    # left is as light as it can be with them. To leave less is not worth a cut more: one above the knot takes it all.
    weights = [1] * hedge[0]
    below = [[] for knot in range(hedge[0])]
    places = []
    for knot, over in reversed(walk_from(hedge, 0)):
        hanging = sorted(below[knot])
        weights[knot] += sum([weight for weight, near in hanging])
        while hanging and weights[knot] > room:
            heaviest = hanging.pop()
            weights[knot] -= heaviest[0]
            places.append(place_of(hedge, knot, heaviest[1]))
        if over is not None:
            below[over].append((weights[knot], knot))
    return sorted(places)


def parts(hedge, places):
    homes = list(range(hedge[0]))
    for at, rod in enumerate(hedge[1]):
        if at not in places:
            homes = merged(homes, rod)
    found = {}
    for knot, home in enumerate(homes):
        found.setdefault(home, []).append(knot)
    return list(found.values())

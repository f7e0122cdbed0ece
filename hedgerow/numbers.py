"""Numbers: hedges struck off to rows of numbers, and put up again from them."""

from hedgerow.errors import BadNumbers
from hedgerow.hedges import MOST_KNOTS, is_number, neighbours


def struck(hedge):
    beside = neighbours(hedge)
    written = []
    while len(written) < hedge[0] - 2:
        counts = [len(near) for near in beside]
        tip = counts.index(1)
        near = beside[tip].pop()
        beside[near].remove(tip)
        written.append(near)
    return written


def are_numbers(many, numbers):
    if not is_number(many) or many < 2 or many > MOST_KNOTS:
        return False
    if not isinstance(numbers, list) or len(numbers) != many - 2:
        return False
    return all([is_number(number) and 0 <= number < many for number in numbers])


def hedge_of(many, numbers):
    if not are_numbers(many, numbers):
        raise BadNumbers("no hedge is struck off to this")
    # A knot is written down once for each of its rods but one, so these are the rods that are still to come.
    wanting = [numbers.count(knot) + 1 for knot in range(many)]
    rods = []
    for number in numbers:
        tip = wanting.index(1)
        rods.append((min(tip, number), max(tip, number)))
        wanting[tip] -= 1
        wanting[number] -= 1
    rods.append(tuple([knot for knot in range(many) if wanting[knot] == 1]))
    return (many, sorted(rods))

"""Likeness: which knots of two hedges of one shape can be put for one another."""

from hedgerow.codes import best_top, branch_codes, code_from, greatest_code, no_marks
from hedgerow.hedges import walk_from


def bracket_order(hedge, marks):
    # The knots in the order in which their `(` stand in the code of the hedge.
    top = best_top(hedge, marks)
    codes = branch_codes(hedge, marks, top)
    below = [[] for knot in range(hedge[0])]
    for knot, over in walk_from(hedge, top):
        if over is not None:
            below[over].append(knot)
    order = []
    waiting = [top]
    while waiting:
        here = waiting.pop()
        order.append(here)
        # The last one waiting goes first, so the greatest branch is put last.
        waiting.extend(sorted(below[here], key=lambda hanging: codes[hanging]))
    return order


def matched(one, marks, other, others):
    if greatest_code(one, marks) != greatest_code(other, others):
        return None
    # With equal codes the knots whose `(` stand at one place have equal branches, hung from knots put for each other.
    put = [None] * one[0]
    for here, there in zip(bracket_order(one, marks), bracket_order(other, others)):
        put[here] = there
    return put


def likeness(one, other):
    return matched(one, no_marks(one), other, no_marks(other))


def sorts(hedge):
    # A turning that puts one knot for another takes the code from the one to that from the other.
    alike = {}
    for knot in range(hedge[0]):
        alike.setdefault(code_from(hedge, knot), []).append(knot)
    return list(alike.values())


def turnings_at(hedge, top):
    codes = branch_codes(hedge, no_marks(hedge), top)
    seen = {}
    ways = 1
    for knot, over in walk_from(hedge, top):
        # Equal branches at one knot may change places: the second has two places to take, the third has three.
        branch = (over, codes[knot])
        seen[branch] = seen.get(branch, 0) + 1
        ways *= seen[branch]
    return ways


def turnings(hedge):
    # Knot 0 can be put for each of its twins, and for each of them the rest in as many ways as with 0 held fast.
    return len(sorts(hedge)[0]) * turnings_at(hedge, 0)

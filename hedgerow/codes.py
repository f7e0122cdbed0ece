"""Codes: bracket texts that hedges of one shape have in common, and the hedges read from them."""

from hedgerow.errors import BadCode
from hedgerow.hedges import MOST_KNOTS, walk_from
from hedgerow.middles import middle


def no_marks(hedge):
    return [""] * hedge[0]


def branch_codes(hedge, marks, top):
    codes = [""] * hedge[0]
    below = [[] for knot in range(hedge[0])]
    for knot, over in reversed(walk_from(hedge, top)):
        inner = "".join(sorted(below[knot], reverse=True))
        codes[knot] = "(" + marks[knot] + inner + ")"
        if over is not None:
            below[over].append(codes[knot])
    return codes


def best_top(hedge, marks):
    return max(middle(hedge), key=lambda top: branch_codes(hedge, marks, top)[top])


def greatest_code(hedge, marks):
    top = best_top(hedge, marks)
    return branch_codes(hedge, marks, top)[top]


def code_from(hedge, knot):
    return branch_codes(hedge, no_marks(hedge), knot)[knot]


def code(hedge):
    return greatest_code(hedge, no_marks(hedge))


def hedge_read(text):
    rods = []
    many = 0
    # The knots whose `)` is still to come, each hung from the one ahead of it.
    hanging = []
    for sign in text:
        if many > 0 and not hanging:
            raise BadCode("more stands behind the text of the first knot")
        if sign == "(":
            if hanging:
                rods.append((hanging[-1], many))
            hanging.append(many)
            many += 1
        elif sign == ")" and hanging:
            hanging.pop()
        else:
            raise BadCode("a sign stands where none like it can")
    if many == 0 or hanging:
        raise BadCode("the text ends too early")
    return (many, sorted(rods))


def read_code(text):
    if not isinstance(text, str):
        raise BadCode("what is read is no text")
    if text.count("(") > MOST_KNOTS:
        raise BadCode("the text has too many knots")
    return hedge_read(text)


def settled(hedge):
    return hedge_read(code(hedge))

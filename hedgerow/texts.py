"""Hedges written as rows, and read from them."""

from hedgerow.errors import BadHedge, BadText
from hedgerow.hedges import MOST_KNOTS, checked


def shown(hedge):
    words = [str(hedge[0])]
    for less, more in hedge[1]:
        words.append(f"{less}-{more}")
    return " ".join(words)


def number_read(word):
    # Only what shown writes is taken: int would also take 07, +7, 1_0 and the digits of other scripts.
    numerals = [str(number) for number in range(MOST_KNOTS + 1)]
    if word not in numerals:
        raise BadText("a number is not as a hedge is written")
    return numerals.index(word)


def rod_read(word):
    # Without a `-` the last part is empty, which is no number.
    halves = word.partition("-")
    return (number_read(halves[0]), number_read(halves[2]))


def read(text):
    if not isinstance(text, str):
        raise BadText("what is read is no text")
    words = text.split(" ")
    many = number_read(words[0])
    rods = [rod_read(word) for word in words[1:]]
    try:
        return checked((many, rods))
    except BadHedge:
        raise BadText("no hedge is written so") from None

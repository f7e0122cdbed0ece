"""Marks: codes and likenesses of hedges whose knots bear letters."""

from hedgerow.codes import greatest_code
from hedgerow.likeness import matched


def marked_code(hedge, marks):
    return greatest_code(hedge, marks)


def marked_likeness(one, marks, other, others):
    return matched(one, marks, other, others)

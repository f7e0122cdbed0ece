"""Points 1 and 20: codes with marks, likenesses that keep marks."""

import itertools
import random
import unittest

from samples import (
    all_lengths, assert_told_anew, beside, grown, grown_hedges, large_hedges, lot_of, renumbered, row, small_hedges,
    star,
)

from hedgerow.codes import code
from hedgerow.marks import marked_code, marked_likeness

FORK = (7, [(0, 3), (1, 3), (2, 5), (3, 4), (4, 5), (5, 6)])


def wanted_from(hedge, marks, knot, over=None):
    """The code with marks from a knot, knot by knot as the document tells it."""
    inner = [wanted_from(hedge, marks, near, knot) for near in beside(hedge, knot) if near != over]
    return "(" + marks[knot] + "".join(sorted(inner)[::-1]) + ")"


def wanted_code(hedge, marks):
    far = [max(lengths) for lengths in all_lengths(hedge)]
    return max(wanted_from(hedge, marks, knot) for knot in range(hedge[0]) if far[knot] == min(far))


def marks_by_lot(many, letters, seed):
    lot = random.Random(seed)
    return [lot.choice(letters) for knot in range(many)]


def moved(marks, names):
    """The marks of the hedge in which each knot has another number, which the names tell."""
    told = [None] * len(marks)
    for knot, name in enumerate(names):
        told[name] = marks[knot]
    return told


def marked_hedges():
    for hedge in small_hedges():
        for marks in itertools.product("ab", repeat=hedge[0]):
            yield hedge, list(marks)
    for seed, hedge in enumerate(grown_hedges(6) + large_hedges()):
        for letters in ("ab", "abcdefghijklmnopqrstuvwxyz", "z"):
            yield hedge, marks_by_lot(hedge[0], letters, seed)


class MarkedCodeTest(unittest.TestCase):
    def test_one_knot_and_two(self):
        self.assertEqual(marked_code((1, []), ["q"]), "(q)")
        self.assertEqual(marked_code((2, [(0, 1)]), ["a", "b"]), "(b(a))")
        self.assertEqual(marked_code((2, [(0, 1)]), ["b", "a"]), "(b(a))")
        self.assertEqual(marked_code((2, [(0, 1)]), ["a", "a"]), "(a(a))")

    def test_branches_are_put_in_order_with_their_marks(self):
        self.assertEqual(marked_code(star(4), ["m", "a", "c", "b"]), "(m(c)(b)(a))")
        # Without marks a branch of one knot is the greatest; the mark comes first.
        self.assertEqual(marked_code(row(5), ["a", "z", "m", "y", "b"]), "(m(z(a))(y(b)))")
        hedge = (6, [(0, 1), (1, 2), (2, 3), (2, 5), (3, 4)])
        self.assertEqual(marked_code(hedge, list("azmzaa")), "(m(z(a))(z(a))(a))")
        self.assertEqual(marked_code(hedge, list("azmzaz")), "(m(z)(z(a))(z(a)))")

    def test_of_two_middle_knots_the_greatest(self):
        self.assertEqual(marked_code(row(4), list("abca")), "(c(b(a))(a))")
        self.assertEqual(marked_code(row(4), list("acba")), "(c(b(a))(a))")
        self.assertEqual(marked_code(row(4), list("abbc")), "(b(c)(b(a)))")

    def test_the_middle_is_that_of_the_hedge_whatever_the_marks(self):
        self.assertEqual(marked_code(row(3), list("zaz")), "(a(z)(z))")

    def test_forty_knots(self):
        letters = [("abcdefghijklmnopqrstuvwxyz" * 2)[knot] for knot in range(40)]
        inner = "".join("(" + letter + ")" for letter in sorted(letters[1:])[::-1])
        self.assertEqual(marked_code(star(40), letters), "(a" + inner + ")")
        self.assertEqual(marked_code(row(40), letters), wanted_code(row(40), letters))

    def test_knot_by_knot(self):
        for hedge, marks in marked_hedges():
            self.assertEqual(marked_code(hedge, marks), wanted_code(hedge, marks), (hedge, marks))

    def test_with_one_letter_it_is_the_code_with_the_letter_put_in(self):
        for hedge in small_hedges() + large_hedges():
            self.assertEqual(marked_code(hedge, ["k"] * hedge[0]).replace("k", ""), code(hedge))


class MarkedLikenessTest(unittest.TestCase):
    def assert_likeness(self, one, marks, other, others):
        told = marked_likeness(one, marks, other, others)
        self.assertIs(type(told), list)
        self.assertEqual(sorted(told), list(range(one[0])))
        self.assertEqual(renumbered(one, told), other)
        self.assertEqual(moved(marks, told), others)

    def test_one_knot_and_two(self):
        self.assertEqual(marked_likeness((1, []), ["a"], (1, []), ["a"]), [0])
        self.assertIsNone(marked_likeness((1, []), ["a"], (1, []), ["b"]))
        self.assertEqual(marked_likeness((2, [(0, 1)]), ["a", "b"], (2, [(0, 1)]), ["b", "a"]), [1, 0])
        self.assertEqual(marked_likeness((2, [(0, 1)]), ["a", "b"], (2, [(0, 1)]), ["a", "b"]), [0, 1])
        self.assertIsNone(marked_likeness((2, [(0, 1)]), ["a", "b"], (2, [(0, 1)]), ["a", "a"]))

    def test_numbered_in_another_order(self):
        for seed, (hedge, marks) in enumerate(marked_hedges()):
            names = lot_of(hedge[0], seed)
            self.assert_likeness(hedge, marks, renumbered(hedge, names), moved(marks, names))

    def test_one_mark_another_letter(self):
        for seed, (hedge, marks) in enumerate(marked_hedges()):
            at = seed % hedge[0]
            names = lot_of(hedge[0], seed)
            others = marks[:at] + ["c" if marks[at] != "c" else "d"] + marks[at + 1:]
            self.assertIsNone(marked_likeness(hedge, marks, renumbered(hedge, names), moved(others, names)))
            self.assertNotEqual(marked_code(hedge, marks), marked_code(hedge, others))

    def test_the_same_letters_at_other_knots(self):
        self.assertIsNone(marked_likeness(row(3), list("aab"), row(3), list("aba")))
        self.assertIsNone(marked_likeness(star(40), ["b"] + ["a"] * 39, star(40), ["a", "b"] + ["a"] * 38))

    def test_hedges_of_unlike_shape_or_size(self):
        self.assertIsNone(marked_likeness(row(4), list("aaaa"), star(4), list("aaaa")))
        self.assertIsNone(marked_likeness(row(4), list("aaaa"), row(3), list("aaa")))
        self.assertIsNone(marked_likeness(row(40), ["a"] * 40, star(40), ["a"] * 40))

    def test_by_trying_all_orders(self):
        hedges = [hedge for hedge in small_hedges() if hedge[0] == 4]
        marked = [(hedge, list(marks)) for hedge in hedges[::3] for marks in itertools.product("ab", repeat=4)]
        for one, marks in marked:
            for other, others in marked[::5]:
                orders = itertools.permutations(range(4))
                wanted = any(renumbered(one, names) == other and moved(marks, names) == others for names in orders)
                if wanted:
                    self.assert_likeness(one, marks, other, others)
                else:
                    self.assertIsNone(marked_likeness(one, marks, other, others))
                self.assertEqual(marked_code(one, marks) == marked_code(other, others), wanted)


class WholeTest(unittest.TestCase):
    def test_what_is_handed_in_stays_and_what_is_told_is_new(self):
        for hedge in [(1, []), (2, [(0, 1)]), FORK, row(40), star(40)]:
            marks = marks_by_lot(hedge[0], "xyz", 1)
            names = lot_of(hedge[0], 6)
            assert_told_anew(self, marked_code, hedge, marks)
            assert_told_anew(self, marked_likeness, hedge, marks, renumbered(hedge, names), moved(marks, names))
            assert_told_anew(self, marked_likeness, hedge, marks, row(3), ["x", "y", "z"])
        self.assertIs(type(marked_code((1, []), ["a"])), str)

    def test_somewhat_more_than_forty_knots_are_not_refused(self):
        hedge = grown(50, 1)
        marks = marks_by_lot(50, "ab", 2)
        self.assertEqual(marked_code(hedge, marks), wanted_code(hedge, marks))


if __name__ == "__main__":
    unittest.main()

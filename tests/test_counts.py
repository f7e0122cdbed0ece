"""Points 1 and 21: sets that are apart, colourings."""

import itertools
import unittest

from samples import (
    all_lengths, assert_told_anew, grown, grown_hedges, large_hedges, last_star, lot_of, renumbered, row, small_hedges,
    star,
)

from hedgerow.counts import apart_sets, coloured, colourings, greatest_apart
from hedgerow.pairing import pairs

FORK = (7, [(0, 3), (1, 3), (2, 5), (3, 4), (4, 5), (5, 6)])


def few_knots():
    return small_hedges() + [renumbered(hedge, lot_of(6, 7)) for hedge in grown_hedges(6)] + [FORK]


def all_apart(hedge):
    """All sets of knots that are apart, as tuples."""
    for many in range(hedge[0] + 1):
        for knots in itertools.combinations(range(hedge[0]), many):
            if not any(a in knots and b in knots for a, b in hedge[1]):
                yield knots


def all_colourings(hedge, colours):
    """All lists of colours by which neighbours are unlike."""
    for told in itertools.product(range(colours), repeat=hedge[0]):
        if all(told[a] != told[b] for a, b in hedge[1]):
            yield list(told)


class ApartTest(unittest.TestCase):
    def test_one_knot_and_two(self):
        self.assertEqual(apart_sets((1, [])), 2)
        self.assertEqual(greatest_apart((1, [])), [0])
        self.assertEqual(apart_sets((2, [(0, 1)])), 3)
        self.assertIn(greatest_apart((2, [(0, 1)])), ([0], [1]))

    def test_some_hedges(self):
        self.assertEqual([apart_sets(row(many)) for many in range(1, 8)], [2, 3, 5, 8, 13, 21, 34])
        self.assertEqual(apart_sets(FORK), 41)
        self.assertEqual(greatest_apart(FORK), [0, 1, 2, 4, 6])

    def test_forty_knots(self):
        self.assertEqual(apart_sets(star(40)), 2 ** 39 + 1)
        self.assertEqual(apart_sets(last_star(40)), 2 ** 39 + 1)
        self.assertEqual(apart_sets(row(40)), 267914296)
        self.assertEqual(greatest_apart(star(40)), list(range(1, 40)))
        self.assertEqual(greatest_apart(last_star(40)), list(range(39)))
        self.assertEqual(len(greatest_apart(row(40))), 20)
        self.assertEqual(greatest_apart(row(39)), list(range(0, 39, 2)))

    def test_against_all_sets(self):
        for hedge in few_knots():
            found = list(all_apart(hedge))
            self.assertEqual(apart_sets(hedge), len(found), hedge)
            told = greatest_apart(hedge)
            self.assertIn(tuple(told), found)
            self.assertEqual(len(told), max(len(knots) for knots in found), hedge)

    def test_large_hedges(self):
        for hedge in large_hedges() + [grown(40, seed) for seed in range(20)]:
            told = greatest_apart(hedge)
            self.assertIs(type(told), list)
            self.assertEqual(told, sorted(set(told)))
            self.assertLessEqual(set(told), set(range(hedge[0])))
            self.assertFalse(any(a in told and b in told for a, b in hedge[1]))
            self.assertEqual(len(told), hedge[0] - len(pairs(hedge)))

    def test_another_order_of_the_knots_changes_no_number(self):
        for hedge in large_hedges():
            self.assertEqual(apart_sets(renumbered(hedge, lot_of(hedge[0], 8))), apart_sets(hedge))


class ColouringsTest(unittest.TestCase):
    def test_no_colour_and_one(self):
        self.assertEqual(colourings((1, []), 0), 0)
        self.assertEqual(colourings((1, []), 1), 1)
        for hedge in [(2, [(0, 1)]), row(3), FORK, row(40), star(40), row(39)]:
            self.assertEqual(colourings(hedge, 0), 0)
            self.assertEqual(colourings(hedge, 1), 0)

    def test_two_colours(self):
        for hedge in small_hedges()[1:] + large_hedges():
            self.assertEqual(colourings(hedge, 2), 2)
        self.assertEqual(colourings((1, []), 2), 2)

    def test_forty_knots(self):
        for hedge in [row(40), star(40), grown(40, 1)]:
            self.assertEqual(colourings(hedge, 3), 3 * 2 ** 39)
            self.assertEqual(colourings(hedge, 100), 100 * 99 ** 39)

    def test_against_all_colourings(self):
        for hedge in small_hedges() + grown_hedges(6)[::10]:
            for colours in range(5):
                self.assertEqual(colourings(hedge, colours), len(list(all_colourings(hedge, colours))), hedge)


class ColouredTest(unittest.TestCase):
    def test_some_hedges(self):
        self.assertEqual(coloured((1, [])), [0])
        self.assertEqual(coloured((2, [(0, 1)])), [0, 1])
        self.assertEqual(coloured(FORK), [0, 0, 0, 1, 0, 1, 0])
        self.assertEqual(coloured((4, [(0, 3), (1, 2), (1, 3)])), [0, 0, 1, 1])

    def test_forty_knots(self):
        self.assertEqual(coloured(row(40)), [0, 1] * 20)
        self.assertEqual(coloured(star(40)), [0] + [1] * 39)
        self.assertEqual(coloured(last_star(40)), [0] * 39 + [1])

    def test_against_all_colourings(self):
        for hedge in few_knots():
            self.assertEqual([coloured(hedge)], [told for told in all_colourings(hedge, 2) if told[0] == 0])

    def test_large_hedges(self):
        for hedge in large_hedges():
            self.assertEqual(coloured(hedge), [length & 1 for length in all_lengths(hedge)[0]])


class WholeTest(unittest.TestCase):
    def test_what_is_handed_in_stays_and_what_is_told_is_new(self):
        for hedge in [(1, []), (2, [(0, 1)]), FORK, row(40), star(40)]:
            assert_told_anew(self, apart_sets, hedge)
            assert_told_anew(self, greatest_apart, hedge)
            assert_told_anew(self, colourings, hedge, 3)
            assert_told_anew(self, coloured, hedge)

    def test_kinds(self):
        self.assertIs(type(apart_sets(FORK)), int)
        self.assertIs(type(colourings(FORK, 0)), int)
        self.assertIs(type(greatest_apart(FORK)), list)
        self.assertIs(type(coloured(FORK)), list)

    def test_somewhat_more_than_forty_knots_are_not_refused(self):
        self.assertEqual(apart_sets(star(50)), 2 ** 49 + 1)
        self.assertEqual(colourings(row(50), 3), 3 * 2 ** 49)
        self.assertEqual(coloured(row(50)), [0, 1] * 25)


if __name__ == "__main__":
    unittest.main()

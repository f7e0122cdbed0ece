"""Points 1 and 17: as few wardens as can be, as many lonely knots as can be."""

import itertools
import unittest

from samples import (
    all_lengths, assert_told_anew, grown, grown_hedges, large_hedges, last_star, lot_of, renumbered, row, small_hedges,
    star,
)

from hedgerow.wardens import lonely, wardens

FORK = (7, [(0, 3), (1, 3), (2, 5), (3, 4), (4, 5), (5, 6)])


def few_knots():
    return small_hedges() + grown_hedges(6) + [renumbered(hedge, lot_of(7, 3)) for hedge in grown_hedges(7)[::6]]


def are_wardens(far, knots):
    return all(any(length[knot] <= 1 for knot in knots) for length in far)


def are_lonely(far, knots):
    return all(far[a][b] >= 3 for a, b in itertools.combinations(knots, 2))


def subsets(things):
    for many in range(len(things) + 1):
        yield from itertools.combinations(things, many)


class WardensTest(unittest.TestCase):
    def assert_wardens_and_lonely(self, hedge):
        far = all_lengths(hedge)
        watching = wardens(hedge)
        alone = lonely(hedge)
        for told in (watching, alone):
            self.assertIs(type(told), list)
            self.assertEqual(told, sorted(set(told)))
            self.assertLessEqual(set(told), set(range(hedge[0])))
        self.assertTrue(are_wardens(far, watching), hedge)
        self.assertTrue(are_lonely(far, alone), hedge)
        # Each lonely knot needs a warden of its own, so equally many are as few, and as many, as can be.
        self.assertEqual(len(watching), len(alone), hedge)

    def test_one_knot_and_two(self):
        self.assertEqual(wardens((1, [])), [0])
        self.assertEqual(lonely((1, [])), [0])
        self.assertIn(wardens((2, [(0, 1)])), ([0], [1]))
        self.assertIn(lonely((2, [(0, 1)])), ([0], [1]))

    def test_some_hedges(self):
        self.assertEqual(wardens(row(3)), [1])
        self.assertEqual(len(lonely(row(3))), 1)
        self.assertEqual(lonely(row(4)), [0, 3])
        self.assertEqual(wardens(row(6)), [1, 4])
        self.assertEqual(wardens(FORK), [3, 5])
        self.assertEqual(len(lonely(FORK)), 2)

    def test_forty_knots(self):
        self.assertEqual(len(wardens(row(40))), 14)
        self.assertEqual(lonely(row(40)), list(range(0, 40, 3)))
        self.assertEqual(wardens(row(39)), list(range(1, 39, 3)))
        self.assertEqual(wardens(star(40)), [0])
        self.assertEqual(wardens(last_star(40)), [39])
        self.assertEqual(len(lonely(star(40))), 1)

    def test_no_fewer_wardens_than_told(self):
        for hedge in few_knots():
            far = all_lengths(hedge)
            fewest = min(len(knots) for knots in subsets(range(hedge[0])) if are_wardens(far, knots))
            self.assertEqual(len(wardens(hedge)), fewest, hedge)

    def test_no_more_lonely_knots_than_told(self):
        for hedge in few_knots():
            far = all_lengths(hedge)
            most = max(len(knots) for knots in subsets(range(hedge[0])) if are_lonely(far, knots))
            self.assertEqual(len(lonely(hedge)), most, hedge)

    def test_all_that_is_told_of_both(self):
        for hedge in few_knots() + large_hedges() + [grown(40, seed) for seed in range(12)]:
            self.assert_wardens_and_lonely(hedge)

    def test_what_is_handed_in_stays_and_what_is_told_is_new(self):
        for hedge in [(1, []), (2, [(0, 1)]), FORK, row(40), star(40)]:
            assert_told_anew(self, wardens, hedge)
            assert_told_anew(self, lonely, hedge)

    def test_somewhat_more_than_forty_knots_are_not_refused(self):
        self.assert_wardens_and_lonely(row(50))
        self.assert_wardens_and_lonely(grown(45, 3))


if __name__ == "__main__":
    unittest.main()

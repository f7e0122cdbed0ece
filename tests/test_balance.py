"""Points 1 and 6: sums, the balance, the greatest branch and the spread."""

import unittest

from samples import (
    all_lengths, all_ways, assert_told_anew, beside, grown, grown_hedges, large_hedges, last_star, row, small_hedges,
    star,
)

from hedgerow.balance import balance, heaviest, spread, sums

FORK = (7, [(0, 3), (1, 3), (2, 5), (3, 4), (4, 5), (5, 6)])
BROOM = (8, [(0, 1), (1, 2), (2, 4), (3, 5), (4, 5), (5, 6), (5, 7)])


def sample_hedges():
    return small_hedges() + grown_hedges(6) + large_hedges()


def branches(hedge, knot):
    """The numbers of knots of the branches at a knot, by the second knots of the ways from it."""
    ways = all_ways(hedge)
    seconds = [ways[knot, other][1] for other in range(hedge[0]) if other != knot]
    return [seconds.count(near) for near in beside(hedge, knot)]


class SumsTest(unittest.TestCase):
    def test_some_hedges(self):
        self.assertEqual(sums(FORK), [16, 16, 16, 11, 10, 11, 16])
        self.assertEqual(sums((3, [(0, 1), (1, 2)])), [3, 2, 3])

    def test_one_knot_and_two(self):
        self.assertEqual(sums((1, [])), [0])
        self.assertEqual(sums((2, [(0, 1)])), [1, 1])

    def test_forty_knots(self):
        self.assertEqual(sums(star(40)), [39] + [77] * 39)
        self.assertEqual(sums(row(40))[0], 780)
        self.assertEqual(sums(row(40))[19:21], [400, 400])

    def test_against_all_lengths(self):
        for hedge in sample_hedges():
            self.assertEqual(sums(hedge), [sum(far) for far in all_lengths(hedge)], hedge)


class BalanceTest(unittest.TestCase):
    def test_one_balance_knot(self):
        self.assertEqual(balance((1, [])), [0])
        self.assertEqual(balance(FORK), [4])
        self.assertEqual(balance(row(39)), [19])
        self.assertEqual(balance(star(40)), [0])
        self.assertEqual(balance(last_star(40)), [39])

    def test_two_balance_knots(self):
        self.assertEqual(balance((2, [(0, 1)])), [0, 1])
        self.assertEqual(balance(row(40)), [19, 20])
        self.assertEqual(balance(BROOM), [4, 5])

    def test_the_balance_is_not_the_middle(self):
        hedge = (20, [(0, knot) for knot in range(1, 12)] + [(knot, knot + 1) for knot in range(11, 19)])
        self.assertEqual(balance(hedge), [0])

    def test_knots_of_the_least_sum(self):
        for hedge in sample_hedges():
            totals = [sum(far) for far in all_lengths(hedge)]
            told = balance(hedge)
            self.assertEqual(told, [knot for knot in range(hedge[0]) if totals[knot] == min(totals)], hedge)
            self.assertIn(len(told), (1, 2))
            if len(told) == 2:
                self.assertIn(tuple(told), hedge[1])

    def test_just_at_these_no_branch_has_more_than_half(self):
        for hedge in sample_hedges():
            told = [knot for knot in range(hedge[0]) if 2 * heaviest(hedge, knot) <= hedge[0]]
            self.assertEqual(balance(hedge), told, hedge)


class HeaviestTest(unittest.TestCase):
    def test_one_knot_has_no_branches(self):
        self.assertEqual(heaviest((1, []), 0), 0)

    def test_two_knots(self):
        self.assertEqual(heaviest((2, [(0, 1)]), 0), 1)
        self.assertEqual(heaviest((2, [(0, 1)]), 1), 1)

    def test_a_fork(self):
        self.assertEqual([heaviest(FORK, knot) for knot in range(7)], [6, 6, 6, 4, 3, 4, 6])

    def test_forty_knots(self):
        self.assertEqual([heaviest(row(40), knot) for knot in range(40)], [max(knot, 39 - knot) for knot in range(40)])
        self.assertEqual([heaviest(star(40), knot) for knot in range(40)], [1] + [39] * 39)

    def test_against_all_ways(self):
        for hedge in small_hedges() + grown_hedges(6)[::5] + [grown(17, 2), grown(28, 4)]:
            for knot in range(hedge[0]):
                self.assertEqual(heaviest(hedge, knot), max(branches(hedge, knot), default=0), (hedge, knot))


class SpreadTest(unittest.TestCase):
    def test_some_hedges(self):
        self.assertEqual(spread((1, [])), 0)
        self.assertEqual(spread((2, [(0, 1)])), 1)
        self.assertEqual(spread((3, [(0, 1), (1, 2)])), 4)
        self.assertEqual(spread(FORK), 48)

    def test_forty_knots(self):
        self.assertEqual(spread(row(40)), 10660)
        self.assertEqual(spread(star(40)), 39 + 2 * 741)

    def test_each_pair_once(self):
        for hedge in sample_hedges():
            far = all_lengths(hedge)
            self.assertEqual(spread(hedge), sum(far[b][a] for a in range(hedge[0]) for b in range(a)), hedge)


class WholeTest(unittest.TestCase):
    def test_what_is_handed_in_stays_and_what_is_told_is_new(self):
        for hedge in [(1, []), (2, [(0, 1)]), FORK, BROOM, row(40), star(40)]:
            assert_told_anew(self, sums, hedge)
            assert_told_anew(self, balance, hedge)
            assert_told_anew(self, heaviest, hedge, 0)
            assert_told_anew(self, spread, hedge)

    def test_kinds(self):
        self.assertIs(type(sums(FORK)), list)
        self.assertIs(type(balance(FORK)), list)
        self.assertIs(type(heaviest((1, []), 0)), int)
        self.assertIs(type(spread((1, []))), int)

    def test_somewhat_more_than_forty_knots_are_not_refused(self):
        self.assertEqual(balance(row(45)), [22])
        self.assertEqual(heaviest(star(50), 1), 49)
        self.assertEqual(spread(star(50)), 49 + 49 * 48)


if __name__ == "__main__":
    unittest.main()

"""Points 1 and 5: reaches, the middle and the long way."""

import unittest

from samples import (
    all_lengths, all_ways, assert_told_anew, grown, grown_hedges, large_hedges, last_star, lot_of, renumbered, row,
    small_hedges, star,
)

from hedgerow.middles import long_way, middle, reaches

FORK = (7, [(0, 3), (1, 3), (2, 5), (3, 4), (4, 5), (5, 6)])
# The middle is 2 and 4, the balance 4 and 5.
BROOM = (8, [(0, 1), (1, 2), (2, 4), (3, 5), (4, 5), (5, 6), (5, 7)])


def sample_hedges():
    return small_hedges() + grown_hedges(6) + large_hedges()


class ReachesTest(unittest.TestCase):
    def test_some_hedges(self):
        self.assertEqual(reaches(FORK), [4, 4, 4, 3, 2, 3, 4])
        self.assertEqual(reaches(BROOM), [5, 4, 3, 5, 3, 4, 5, 5])

    def test_one_knot_and_two(self):
        self.assertEqual(reaches((1, [])), [0])
        self.assertEqual(reaches((2, [(0, 1)])), [1, 1])

    def test_forty_knots(self):
        self.assertEqual(reaches(row(40)), [max(knot, 39 - knot) for knot in range(40)])
        self.assertEqual(reaches(star(40)), [1] + [2] * 39)
        self.assertEqual(reaches(last_star(40)), [2] * 39 + [1])

    def test_against_all_lengths(self):
        for hedge in sample_hedges():
            self.assertEqual(reaches(hedge), [max(far) for far in all_lengths(hedge)], hedge)


class MiddleTest(unittest.TestCase):
    def test_one_knot_in_the_middle(self):
        self.assertEqual(middle((1, [])), [0])
        self.assertEqual(middle(FORK), [4])
        self.assertEqual(middle(row(39)), [19])
        self.assertEqual(middle(star(40)), [0])
        self.assertEqual(middle(last_star(40)), [39])

    def test_two_knots_in_the_middle(self):
        self.assertEqual(middle((2, [(0, 1)])), [0, 1])
        self.assertEqual(middle(BROOM), [2, 4])
        self.assertEqual(middle(row(40)), [19, 20])
        self.assertEqual(middle((4, [(0, 3), (1, 2), (1, 3)])), [1, 3])

    def test_the_middle_is_not_the_balance(self):
        # A long row hung from a star: most knots are at the star, the middle lies in the row.
        hedge = (20, [(0, knot) for knot in range(1, 12)] + [(knot, knot + 1) for knot in range(11, 19)])
        self.assertEqual(middle(hedge), [14])

    def test_against_all_lengths(self):
        for hedge in sample_hedges():
            far = [max(lengths) for lengths in all_lengths(hedge)]
            told = middle(hedge)
            self.assertEqual(told, [knot for knot in range(hedge[0]) if far[knot] == min(far)], hedge)
            self.assertIn(len(told), (1, 2))
            if len(told) == 2:
                self.assertIn(tuple(told), hedge[1])


class LongWayTest(unittest.TestCase):
    def test_one_knot_and_two(self):
        self.assertEqual(long_way((1, [])), [0])
        self.assertEqual(long_way((2, [(0, 1)])), [0, 1])

    def test_of_several_the_first_in_order(self):
        self.assertEqual(long_way(FORK), [0, 3, 4, 5, 2])
        self.assertEqual(long_way(BROOM), [0, 1, 2, 4, 5, 3])
        self.assertEqual(long_way(star(40)), [1, 0, 2])
        self.assertEqual(long_way(last_star(40)), [0, 39, 1])

    def test_the_order_is_that_of_lists_and_not_that_of_the_ends(self):
        # From 0 the end 2 is less than the end 4, but the way to 4 is by 3 and the way to 2 by 5.
        hedge = (7, [(0, 6), (1, 3), (1, 5), (1, 6), (2, 5), (3, 4)])
        self.assertEqual(long_way(hedge), [0, 6, 1, 3, 4])

    def test_forty_knots_in_a_row(self):
        self.assertEqual(long_way(row(40)), list(range(40)))
        names = lot_of(40, 5)
        wanted = names if names[0] < names[-1] else names[::-1]
        self.assertEqual(long_way(renumbered(row(40), names)), wanted)

    def test_against_all_ways(self):
        for hedge in sample_hedges():
            ways = all_ways(hedge).values()
            longest = max(len(steps) for steps in ways)
            self.assertEqual(long_way(hedge), min(steps for steps in ways if len(steps) == longest), hedge)


class WholeTest(unittest.TestCase):
    def test_what_is_handed_in_stays_and_what_is_told_is_new(self):
        for hedge in [(1, []), (2, [(0, 1)]), FORK, BROOM, row(40), star(40)]:
            for ask in [reaches, middle, long_way]:
                assert_told_anew(self, ask, hedge)
                self.assertIs(type(ask(hedge)), list)

    def test_somewhat_more_than_forty_knots_are_not_refused(self):
        self.assertEqual(middle(row(45)), [22])
        self.assertEqual(long_way(row(60)), list(range(60)))
        hedge = grown(44, 3)
        self.assertEqual(reaches(hedge), [max(far) for far in all_lengths(hedge)])


if __name__ == "__main__":
    unittest.main()

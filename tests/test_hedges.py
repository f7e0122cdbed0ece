"""Points 1 and 3: neighbours, tips, ways and their lengths."""

import copy
import unittest

from samples import all_lengths, beside, grown, large_hedges, row, small_hedges, star

from hedgerow.hedges import lengths, neighbours, tips, way

FORK = (7, [(0, 3), (1, 3), (2, 5), (3, 4), (4, 5), (5, 6)])


class NeighboursTest(unittest.TestCase):
    def test_a_fork(self):
        self.assertEqual(neighbours(FORK), [[3], [3], [5], [0, 1, 4], [3, 5], [2, 4, 6], [5]])

    def test_one_knot_has_none(self):
        self.assertEqual(neighbours((1, [])), [[]])

    def test_all_small_and_some_large_hedges(self):
        for hedge in small_hedges() + large_hedges():
            with self.subTest(hedge=hedge):
                self.assertEqual(neighbours(hedge), [beside(hedge, knot) for knot in range(hedge[0])])

    def test_lists_are_new_with_the_lists_within(self):
        for hedge in [(1, []), FORK, star(40)]:
            before = copy.deepcopy(hedge)
            first = neighbours(hedge)
            second = neighbours(hedge)
            self.assertIsNot(first, second)
            self.assertEqual(len({id(near) for near in first + second}), 2 * hedge[0])
            kept = copy.deepcopy(second)
            for near in first:
                near.append(0)
            first.clear()
            self.assertEqual(second, kept)
            self.assertEqual(neighbours(hedge), kept)
            self.assertEqual(hedge, before)


class TipsTest(unittest.TestCase):
    def test_a_fork(self):
        self.assertEqual(tips(FORK), [0, 1, 2, 6])

    def test_one_knot_is_a_tip(self):
        self.assertEqual(tips((1, [])), [0])

    def test_both_of_two_knots_are_tips(self):
        self.assertEqual(tips((2, [(0, 1)])), [0, 1])

    def test_forty_knots(self):
        self.assertEqual(tips(row(40)), [0, 39])
        self.assertEqual(tips(star(40)), list(range(1, 40)))

    def test_all_small_and_some_large_hedges(self):
        for hedge in small_hedges() + large_hedges():
            with self.subTest(hedge=hedge):
                wanted = [knot for knot in range(hedge[0]) if len(beside(hedge, knot)) in (0, 1)]
                self.assertEqual(tips(hedge), wanted)

    def test_the_list_is_new(self):
        before = copy.deepcopy(FORK)
        first = tips(FORK)
        first.clear()
        self.assertEqual(tips(FORK), [0, 1, 2, 6])
        self.assertEqual(FORK, before)


class LengthsTest(unittest.TestCase):
    def test_a_fork(self):
        self.assertEqual(lengths(FORK, 0), [0, 2, 4, 1, 2, 3, 4])
        self.assertEqual(lengths(FORK, 4), [2, 2, 2, 1, 0, 1, 2])

    def test_one_knot(self):
        self.assertEqual(lengths((1, []), 0), [0])

    def test_forty_knots_in_a_row(self):
        self.assertEqual(lengths(row(40), 0), list(range(40)))
        self.assertEqual(lengths(row(40), 39), list(range(39, -1, -1)))

    def test_all_small_and_some_large_hedges(self):
        for hedge in small_hedges() + large_hedges():
            with self.subTest(hedge=hedge):
                self.assertEqual([lengths(hedge, knot) for knot in range(hedge[0])], all_lengths(hedge))

    def test_the_list_is_new(self):
        before = copy.deepcopy(FORK)
        first = lengths(FORK, 0)
        first.clear()
        self.assertEqual(lengths(FORK, 0), [0, 2, 4, 1, 2, 3, 4])
        self.assertEqual(FORK, before)


class WayTest(unittest.TestCase):
    def test_a_fork(self):
        self.assertEqual(way(FORK, 0, 6), [0, 3, 4, 5, 6])
        self.assertEqual(way(FORK, 6, 0), [6, 5, 4, 3, 0])
        self.assertEqual(way(FORK, 1, 0), [1, 3, 0])
        self.assertEqual(way(FORK, 4, 2), [4, 5, 2])

    def test_a_way_to_a_neighbour(self):
        self.assertEqual(way((2, [(0, 1)]), 0, 1), [0, 1])
        self.assertEqual(way((2, [(0, 1)]), 1, 0), [1, 0])

    def test_a_way_from_a_knot_to_itself_has_it_alone(self):
        for hedge in [(1, []), FORK, row(40), star(40)]:
            for knot in range(hedge[0]):
                self.assertEqual(way(hedge, knot, knot), [knot])

    def test_forty_knots_in_a_row(self):
        self.assertEqual(way(row(40), 0, 39), list(range(40)))
        self.assertEqual(way(row(40), 39, 0), list(range(39, -1, -1)))

    def test_all_ways_of_all_small_and_some_large_hedges(self):
        for hedge in small_hedges() + large_hedges():
            far = all_lengths(hedge)
            for one in range(hedge[0]):
                for other in range(hedge[0]):
                    self.assert_way(hedge, way(hedge, one, other), one, other, far[one][other])

    def assert_way(self, hedge, told, one, other, length):
        self.assertIs(type(told), list)
        self.assertEqual((told[0], told[-1]), (one, other))
        self.assertEqual(len(told), length + 1)
        self.assertEqual(len(set(told)), len(told))
        for here, there in zip(told, told[1:]):
            self.assertIn((min(here, there), max(here, there)), hedge[1])

    def test_the_list_is_new(self):
        before = copy.deepcopy(FORK)
        first = way(FORK, 0, 6)
        first.clear()
        self.assertEqual(way(FORK, 0, 6), [0, 3, 4, 5, 6])
        self.assertEqual(FORK, before)


class BeyondFortyTest(unittest.TestCase):
    """Somewhat more than 40 knots are refused by checked and read alone."""

    def test_nothing_is_refused(self):
        self.assertEqual(way(row(60), 0, 59), list(range(60)))
        self.assertEqual(lengths(row(60), 0), list(range(60)))
        self.assertEqual(tips(star(45)), list(range(1, 45)))
        hedge = grown(50, 1)
        self.assertEqual(neighbours(hedge), [beside(hedge, knot) for knot in range(50)])


if __name__ == "__main__":
    unittest.main()

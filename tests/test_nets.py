"""Points 1 and 18: the net of some knots, the gate of three."""

import itertools
import unittest

from samples import (
    all_ways, assert_told_anew, count_parts, grown, grown_hedges, large_hedges, last_star, lot_of, renumbered, row,
    small_hedges, star,
)

from hedgerow.nets import gate, net

FORK = (7, [(0, 3), (1, 3), (2, 5), (3, 4), (4, 5), (5, 6)])


def wanted_net(hedge, knots, ways):
    """The places of the rods of all ways between two of the knots."""
    rods = set()
    for one, other in itertools.combinations(knots, 2):
        steps = ways[one, other]
        rods |= {(min(rod), max(rod)) for rod in zip(steps, steps[1:])}
    return [at for at, rod in enumerate(hedge[1]) if rod in rods]


def knot_lists(many):
    """All lists of two or more knots, each in a rising order, in a falling one and in one by lot."""
    for length in range(2, many + 1):
        for knots in itertools.combinations(range(many), length):
            yield list(knots)
            yield list(knots[::-1])
            yield [knots[at] for at in lot_of(length, 1)]


def few_knots():
    return small_hedges() + [renumbered(hedge, lot_of(6, 4)) for hedge in grown_hedges(6)[::4]]


class NetTest(unittest.TestCase):
    def test_two_knots(self):
        self.assertEqual(net((2, [(0, 1)]), [0, 1]), [0])
        self.assertEqual(net((2, [(0, 1)]), [1, 0]), [0])

    def test_a_fork(self):
        self.assertEqual(net(FORK, [0, 1]), [0, 1])
        self.assertEqual(net(FORK, [6, 3]), [3, 4, 5])
        self.assertEqual(net(FORK, [6, 1, 2]), [1, 2, 3, 4, 5])
        self.assertEqual(net(FORK, [5, 4]), [4])
        self.assertEqual(net(FORK, [0, 1, 2, 3, 4, 5, 6]), [0, 1, 2, 3, 4, 5])

    def test_forty_knots(self):
        self.assertEqual(net(row(40), [39, 0]), list(range(39)))
        self.assertEqual(net(row(40), [20, 7, 11]), list(range(7, 20)))
        self.assertEqual(net(star(40), [9, 4]), [3, 8])
        self.assertEqual(net(star(40), [9, 0]), [8])
        self.assertEqual(net(last_star(40), [9, 4, 39]), [4, 9])
        self.assertEqual(net(star(40), list(range(40))), list(range(39)))

    def test_against_the_ways_between_the_knots(self):
        for hedge in few_knots():
            ways = all_ways(hedge)
            for knots in knot_lists(hedge[0]):
                self.assertEqual(net(hedge, knots), wanted_net(hedge, knots, ways), (hedge, knots))
        for hedge in large_hedges():
            ways = all_ways(hedge)
            for many in range(2, hedge[0] + 1, 3):
                knots = lot_of(hedge[0], many)[:many]
                self.assertEqual(net(hedge, knots), wanted_net(hedge, knots, ways), (hedge, knots))

    def test_the_rods_hang_together_and_no_fewer_join_the_knots(self):
        for hedge in few_knots():
            for length in range(2, hedge[0] + 1):
                for knots in itertools.combinations(range(hedge[0]), length):
                    rods = [hedge[1][at] for at in net(hedge, list(knots))]
                    ends = {end for rod in rods for end in rod}
                    self.assertLessEqual(set(knots), ends)
                    # Knots without a rod are parts of their own.
                    self.assertEqual(count_parts(hedge[0], rods), hedge[0] - len(ends) + 1)
                    for left in range(len(rods)):
                        fewer = rods[:left] + rods[left + 1:]
                        self.assertFalse(self.join(hedge, fewer, knots))

    def join(self, hedge, rods, knots):
        reached = {knots[0]}
        for step in range(hedge[0]):
            reached |= {end for rod in rods if reached & set(rod) for end in rod}
        return set(knots) <= reached

    def test_somewhat_beyond_nothing_is_refused(self):
        self.assertEqual(net(FORK, [3]), [])
        self.assertEqual(net(FORK, []), [])
        self.assertEqual(net(row(60), [0, 59]), list(range(59)))


class GateTest(unittest.TestCase):
    def test_a_fork(self):
        self.assertEqual(gate(FORK, 0, 1, 6), 3)
        self.assertEqual(gate(FORK, 6, 2, 1), 5)
        self.assertEqual(gate(FORK, 0, 4, 6), 4)
        self.assertEqual(gate(FORK, 0, 5, 4), 4)

    def test_knots_that_are_alike(self):
        for hedge in [(1, []), (2, [(0, 1)]), FORK, row(40), star(40), grown(17, 3)]:
            for one in range(hedge[0]):
                self.assertEqual(gate(hedge, one, one, one), one)
                for other in range(hedge[0]):
                    self.assertEqual(gate(hedge, one, one, other), one)
                    self.assertEqual(gate(hedge, one, other, one), one)
                    self.assertEqual(gate(hedge, other, one, one), one)

    def test_forty_knots(self):
        for three in itertools.permutations([3, 17, 30]):
            self.assertEqual(gate(row(40), *three), 17)
            self.assertEqual(gate(star(40), *three), 0)
            self.assertEqual(gate(last_star(40), *three), 39)
        for three in itertools.permutations([0, 17, 30]):
            self.assertEqual(gate(star(40), *three), 0)

    def test_against_the_ways_between_the_knots_in_every_order(self):
        for hedge in small_hedges() + grown_hedges(6)[::4] + [grown(11, 4), grown(13, 5)]:
            ways = {ends: set(steps) for ends, steps in all_ways(hedge).items()}
            for one, other, third in itertools.product(range(hedge[0]), repeat=3):
                common = ways[one, other] & ways[other, third] & ways[third, one]
                self.assertEqual([gate(hedge, one, other, third)], sorted(common), (hedge, one, other, third))

    def test_large_hedges(self):
        for hedge in large_hedges():
            ways = {ends: set(steps) for ends, steps in all_ways(hedge).items()}
            for seed in range(10):
                three = lot_of(hedge[0], seed)[:3]
                for one, other, third in itertools.permutations(three):
                    common = ways[one, other] & ways[other, third] & ways[third, one]
                    self.assertEqual([gate(hedge, one, other, third)], sorted(common))


class WholeTest(unittest.TestCase):
    def test_what_is_handed_in_stays_and_what_is_told_is_new(self):
        for hedge in [(2, [(0, 1)]), FORK, row(40), star(40)]:
            assert_told_anew(self, net, hedge, [hedge[0] - 1, 0])
            assert_told_anew(self, net, hedge, list(range(hedge[0])))
            assert_told_anew(self, gate, hedge, 0, 1, hedge[0] - 1)
        self.assertIs(type(net(FORK, [0, 1])), list)
        self.assertIs(type(gate(FORK, 0, 1, 2)), int)


if __name__ == "__main__":
    unittest.main()

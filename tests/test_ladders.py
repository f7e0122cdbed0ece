"""Points 1 and 19: the ladder of a hedge, what is above a knot, the first common one."""

import unittest

from samples import (
    all_ways, assert_told_anew, beside, grown, grown_hedges, large_hedges, last_star, lot_of, renumbered, row,
    small_hedges, star,
)

from hedgerow.ladders import above, first_common, ladder

FORK = (7, [(0, 3), (1, 3), (2, 5), (3, 4), (4, 5), (5, 6)])


def sample_hedges():
    return small_hedges() + [renumbered(hedge, lot_of(6, 5)) for hedge in grown_hedges(6)] + large_hedges()


def parts_without(hedge, knots, top):
    """The parts that some knots fall into without the top."""
    left = knots - {top}
    found = []
    while left:
        part = {min(left)}
        edge = part
        while edge:
            edge = {near for knot in edge for near in beside(hedge, knot)} & left - part
            part = part | edge
        found.append(part)
        left -= part
    return found


def wanted_ladder(hedge):
    """Part by part as the document tells it."""
    rungs = [None] * hedge[0]
    waiting = [(set(range(hedge[0])), None)]
    while waiting:
        knots, over = waiting.pop()
        top = min(knot for knot in knots
                  if all(2 * len(part) <= len(knots) for part in parts_without(hedge, knots, knot)))
        rungs[top] = over
        waiting += [(part, top) for part in parts_without(hedge, knots, top)]
    return rungs


class LadderTest(unittest.TestCase):
    def test_one_knot_and_two(self):
        self.assertEqual(ladder((1, [])), [None])
        self.assertEqual(ladder((2, [(0, 1)])), [None, 0])

    def test_some_hedges(self):
        self.assertEqual(ladder(FORK), [3, 3, 5, 4, None, 4, 5])
        self.assertEqual(ladder(row(3)), [1, None, 1])
        self.assertEqual(ladder(row(4)), [1, None, 1, 2])
        self.assertEqual(ladder((4, [(0, 3), (1, 2), (1, 3)])), [1, None, 1, 0])

    def test_forty_knots(self):
        self.assertEqual(ladder(star(40)), [None] + [0] * 39)
        self.assertEqual(ladder(last_star(40)), [39] * 39 + [None])
        told = ladder(row(40))
        self.assertEqual([knot for knot in range(40) if told[knot] is None], [19])
        self.assertEqual([knot for knot in range(40) if told[knot] == 19], [9, 29])

    def test_each_top_by_its_own_definition(self):
        for hedge in sample_hedges():
            self.assertEqual(ladder(hedge), wanted_ladder(hedge), hedge)

    def test_no_knot_has_more_than_five_others_above_it(self):
        for hedge in large_hedges() + [grown(40, seed) for seed in range(30)]:
            rungs = ladder(hedge)
            for knot in range(hedge[0]):
                self.assertLessEqual(len(above(rungs, knot)), 6)
        self.assertEqual(max(len(above(ladder(row(40)), knot)) for knot in range(40)), 6)


class AboveTest(unittest.TestCase):
    def test_some_ladders(self):
        self.assertEqual(above([None], 0), [0])
        self.assertEqual(above([None, 0], 0), [0])
        self.assertEqual(above([None, 0], 1), [1, 0])
        self.assertEqual(above([3, 3, 5, 4, None, 4, 5], 6), [6, 5, 4])
        self.assertEqual(above([3, 3, 5, 4, None, 4, 5], 4), [4])
        # The top is knot 3, and knot 0 is above others: 0 is not taken for none.
        self.assertEqual(above([3, 0, 0, None], 2), [2, 0, 3])

    def test_each_is_below_the_next(self):
        for hedge in large_hedges():
            rungs = ladder(hedge)
            for knot in range(hedge[0]):
                told = above(rungs, knot)
                self.assertEqual(told[0], knot)
                self.assertEqual([rungs[one] for one in told], told[1:] + [None])


class FirstCommonTest(unittest.TestCase):
    def test_some_ladders(self):
        self.assertEqual(first_common([None], 0, 0), 0)
        self.assertEqual(first_common([None, 0], 0, 1), 0)
        self.assertEqual(first_common([None, 0], 1, 1), 1)
        rungs = [3, 3, 5, 4, None, 4, 5]
        self.assertEqual(first_common(rungs, 0, 1), 3)
        self.assertEqual(first_common(rungs, 0, 3), 3)
        self.assertEqual(first_common(rungs, 3, 0), 3)
        self.assertEqual(first_common(rungs, 0, 6), 4)
        self.assertEqual(first_common(rungs, 5, 3), 4)

    def test_it_is_the_lowest_and_lies_on_the_way(self):
        for hedge in sample_hedges():
            rungs = ladder(hedge)
            ways = all_ways(hedge)
            over = [above(rungs, knot) for knot in range(hedge[0])]
            for one in range(hedge[0]):
                for other in range(hedge[0]):
                    told = first_common(rungs, one, other)
                    common = set(over[one]) & set(over[other])
                    self.assertIn(told, common)
                    self.assertEqual(len(over[told]), max(len(over[knot]) for knot in common))
                    self.assertIn(told, ways[one, other])


class WholeTest(unittest.TestCase):
    def test_what_is_handed_in_stays_and_what_is_told_is_new(self):
        for hedge in [(1, []), (2, [(0, 1)]), FORK, row(40), star(40)]:
            assert_told_anew(self, ladder, hedge)
            assert_told_anew(self, above, ladder(hedge), hedge[0] - 1)
            assert_told_anew(self, first_common, ladder(hedge), 0, hedge[0] - 1)
        self.assertIs(type(ladder((1, []))), list)
        self.assertIs(type(above([None], 0)), list)

    def test_somewhat_more_than_forty_knots_are_not_refused(self):
        self.assertEqual(ladder(row(63)), wanted_ladder(row(63)))
        self.assertEqual(ladder(grown(50, 2)), wanted_ladder(grown(50, 2)))


if __name__ == "__main__":
    unittest.main()

"""Points 1 and 16: a cut with as few rods as can be for a room, and the parts of a cut."""

import itertools
import unittest

from samples import (
    assert_told_anew, beside, grown, grown_hedges, large_hedges, last_star, lot_of, renumbered, row, small_hedges,
    star,
)

from hedgerow.parts import cut, parts

FORK = (7, [(0, 3), (1, 3), (2, 5), (3, 4), (4, 5), (5, 6)])


def few_knots():
    return small_hedges() + grown_hedges(6) + [renumbered(hedge, lot_of(7, 2)) for hedge in grown_hedges(7)[::12]]


def wanted_parts(hedge, places):
    """The parts without some rods, by spreading from the least knot that is left."""
    rods = [rod for at, rod in enumerate(hedge[1]) if at not in places]
    left = set(range(hedge[0]))
    found = []
    while left:
        part = {min(left)}
        while True:
            wider = part | {end for rod in rods if part & set(rod) for end in rod}
            if wider == part:
                break
            part = wider
        found.append(sorted(part))
        left -= part
    return found


def place_lists(hedge):
    """All lists of places of rods, rising."""
    for many in range(hedge[0]):
        yield from itertools.combinations(range(hedge[0] - 1), many)


def fewest_by_size(hedge, room, knot, over=None):
    """For each number of knots that may hang together at the knot and below it, the fewest rods cut there."""
    fewest = {1: 0}
    for near in beside(hedge, knot):
        if near != over:
            below = fewest_by_size(hedge, room, near, knot)
            wider = {size: rods + 1 + min(below.values()) for size, rods in fewest.items()}
            for size, rods in fewest.items():
                for more, others in below.items():
                    if size + more <= room:
                        wider[size + more] = min(wider.get(size + more, 99), rods + others)
            fewest = wider
    return fewest


class CutTest(unittest.TestCase):
    def assert_cut(self, hedge, room, fewest):
        told = cut(hedge, room)
        self.assertIs(type(told), list)
        self.assertEqual(told, sorted(set(told)))
        self.assertLessEqual(set(told), set(range(hedge[0] - 1)))
        self.assertLessEqual(max(len(part) for part in wanted_parts(hedge, told)), room, (hedge, room))
        self.assertEqual(len(told), fewest, (hedge, room))

    def test_one_knot_and_two(self):
        for room in (1, 2, 3):
            self.assertEqual(cut((1, []), room), [])
        self.assertEqual(cut((2, [(0, 1)]), 1), [0])
        self.assertEqual(cut((2, [(0, 1)]), 2), [])
        self.assertEqual(cut((2, [(0, 1)]), 3), [])

    def test_some_hedges(self):
        self.assertEqual(cut(row(4), 2), [1])
        self.assertEqual(cut(row(6), 2), [1, 3])
        self.assertIn(cut(FORK, 4), ([3], [4]))
        self.assertEqual(len(cut(FORK, 3)), 2)
        self.assertEqual(cut(FORK, 1), [0, 1, 2, 3, 4, 5])

    def test_the_heaviest_branch_goes(self):
        # At 0 hang 1, 2 and a branch of three: one cut is enough for a room of 3 only if the branch is cut.
        self.assertEqual(cut((6, [(0, 1), (0, 2), (0, 3), (3, 4), (4, 5)]), 3), [2])
        self.assertEqual(cut((6, [(0, 1), (0, 4), (0, 5), (1, 2), (2, 3)]), 3), [0])

    def test_forty_knots(self):
        for room in range(1, 42):
            self.assert_cut(row(40), room, (40 + room - 1) // room - 1)
            self.assert_cut(star(40), room, max(0, 40 - room))
            self.assert_cut(last_star(40), room, max(0, 40 - room))

    def test_against_all_places_of_rods(self):
        for hedge in few_knots():
            sizes = [(len(places), max(len(part) for part in wanted_parts(hedge, places)))
                     for places in place_lists(hedge)]
            for room in range(1, hedge[0] + 2):
                self.assert_cut(hedge, room, min(many for many, size in sizes if size <= room))

    def test_large_hedges_against_all_sizes_at_each_knot(self):
        for hedge in large_hedges() + [grown(40, seed) for seed in range(5)]:
            for room in list(range(1, 15)) + [20, hedge[0] - 1, hedge[0], hedge[0] + 1]:
                self.assert_cut(hedge, room, min(fewest_by_size(hedge, room, 0).values()))

    def test_a_great_room_needs_no_cut(self):
        for hedge in large_hedges():
            self.assertEqual(cut(hedge, hedge[0]), [])
            self.assertEqual(cut(hedge, 10 ** 30), [])


class PartsTest(unittest.TestCase):
    def test_some_hedges(self):
        self.assertEqual(parts((1, []), []), [[0]])
        self.assertEqual(parts((2, [(0, 1)]), []), [[0, 1]])
        self.assertEqual(parts((2, [(0, 1)]), [0]), [[0], [1]])
        self.assertEqual(parts(FORK, [3]), [[0, 1, 3], [2, 4, 5, 6]])
        self.assertEqual(parts(FORK, [0, 5]), [[0], [1, 2, 3, 4, 5], [6]])

    def test_parts_are_in_order_of_their_first_knots(self):
        self.assertEqual(parts((5, [(0, 4), (1, 2), (1, 3), (1, 4)]), [3]), [[0, 4], [1, 2, 3]])
        self.assertEqual(parts((5, [(0, 4), (1, 2), (1, 3), (1, 4)]), [0, 1]), [[0], [1, 3, 4], [2]])

    def test_none_and_all(self):
        for hedge in large_hedges():
            self.assertEqual(parts(hedge, []), [list(range(hedge[0]))])
            self.assertEqual(parts(hedge, list(range(hedge[0] - 1))), [[knot] for knot in range(hedge[0])])

    def test_any_places_of_small_hedges(self):
        for hedge in few_knots():
            for places in place_lists(hedge):
                self.assertEqual(parts(hedge, list(places)), wanted_parts(hedge, places), (hedge, places))

    def test_some_places_of_large_hedges(self):
        for hedge in large_hedges():
            for seed in range(6):
                places = sorted(lot_of(hedge[0] - 1, seed)[:(seed + 1) * hedge[0] // 7])
                self.assertEqual(parts(hedge, places), wanted_parts(hedge, places), (hedge, places))


class WholeTest(unittest.TestCase):
    def test_what_is_handed_in_stays_and_what_is_told_is_new(self):
        for hedge in [(1, []), (2, [(0, 1)]), FORK, row(40), star(40)]:
            for room in (1, 3, hedge[0] + 1):
                assert_told_anew(self, cut, hedge, room)
                assert_told_anew(self, parts, hedge, cut(hedge, room))

    def test_kinds(self):
        told = parts(FORK, [3])
        self.assertIs(type(told), list)
        self.assertEqual({type(part) for part in told}, {list})

    def test_somewhat_more_than_forty_knots_are_not_refused(self):
        self.assertEqual(cut(row(60), 30), [29])
        self.assertEqual(parts(row(60), [29]), [list(range(30)), list(range(30, 60))])


if __name__ == "__main__":
    unittest.main()

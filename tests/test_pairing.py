"""Points 1 and 15: as many pairs as can be, as few guards as can be."""

import itertools
import unittest

from samples import (
    assert_told_anew, grown, grown_hedges, large_hedges, last_star, lot_of, renumbered, row, small_hedges, star,
)

from hedgerow.pairing import guards, pairs

FORK = (7, [(0, 3), (1, 3), (2, 5), (3, 4), (4, 5), (5, 6)])


def few_knots():
    return small_hedges() + grown_hedges(6) + [renumbered(hedge, lot_of(7, 1)) for hedge in grown_hedges(7)[::6]]


def are_pairs(rods):
    ends = [end for rod in rods for end in rod]
    return len(ends) == len(set(ends))


def are_guards(hedge, knots):
    return all(a in knots or b in knots for a, b in hedge[1])


def subsets(things):
    for many in range(len(things) + 1):
        yield from itertools.combinations(things, many)


class Case(unittest.TestCase):
    def assert_pairs_and_guards(self, hedge):
        paired = pairs(hedge)
        guarding = guards(hedge)
        self.assertEqual((type(paired), type(guarding)), (list, list))
        self.assertEqual(paired, sorted(set(paired)))
        self.assertLessEqual(set(paired), set(hedge[1]))
        self.assertLessEqual({type(rod) for rod in paired}, {tuple})
        self.assertTrue(are_pairs(paired), hedge)
        self.assertEqual(guarding, sorted(set(guarding)))
        self.assertLessEqual(set(guarding), set(range(hedge[0])))
        self.assertTrue(are_guards(hedge, guarding), hedge)
        # Each pair needs a guard of its own, so equally many are as many, and as few, as can be.
        self.assertEqual(len(paired), len(guarding), hedge)


class PairingTest(Case):
    def test_one_knot_and_two(self):
        self.assertEqual(pairs((1, [])), [])
        self.assertEqual(guards((1, [])), [])
        self.assertEqual(pairs((2, [(0, 1)])), [(0, 1)])
        self.assertIn(guards((2, [(0, 1)])), ([0], [1]))

    def test_some_hedges(self):
        self.assertEqual(pairs(row(4)), [(0, 1), (2, 3)])
        self.assertEqual(len(pairs(row(5))), 2)
        self.assertEqual(guards(row(5)), [1, 3])
        self.assertEqual(guards(FORK), [3, 5])
        self.assertEqual(len(pairs(FORK)), 2)

    def test_forty_knots(self):
        self.assertEqual(pairs(row(40)), [(knot, knot + 1) for knot in range(0, 40, 2)])
        self.assertEqual(len(guards(row(40))), 20)
        self.assertEqual(len(pairs(row(39))), 19)
        self.assertEqual(guards(row(39)), list(range(1, 39, 2)))
        self.assertEqual(guards(star(40)), [0])
        self.assertEqual(guards(last_star(40)), [39])
        self.assertEqual(len(pairs(star(40))), 1)

    def test_no_more_pairs_than_told(self):
        for hedge in few_knots():
            most = max(len(rods) for rods in subsets(hedge[1]) if are_pairs(rods))
            self.assertEqual(len(pairs(hedge)), most, hedge)

    def test_no_fewer_guards_than_told(self):
        for hedge in few_knots():
            fewest = min(len(knots) for knots in subsets(range(hedge[0])) if are_guards(hedge, knots))
            self.assertEqual(len(guards(hedge)), fewest, hedge)

    def test_all_that_is_told_of_both(self):
        for hedge in few_knots() + large_hedges() + [grown(40, seed) for seed in range(30)]:
            self.assert_pairs_and_guards(hedge)

    def test_what_is_handed_in_stays_and_what_is_told_is_new(self):
        for hedge in [(1, []), (2, [(0, 1)]), FORK, row(40), star(40)]:
            assert_told_anew(self, pairs, hedge)
            assert_told_anew(self, guards, hedge)

    def test_somewhat_more_than_forty_knots_are_not_refused(self):
        self.assert_pairs_and_guards(row(60))
        self.assert_pairs_and_guards(grown(50, 3))


if __name__ == "__main__":
    unittest.main()

"""Points 1, 8 and 10: likenesses of two hedges, turnings, twins and sorts."""

import itertools
import math
import unittest

from samples import (
    assert_told_anew, first_form, grown, grown_hedges, large_hedges, last_star, lot_of, renumbered, row, small_hedges,
    star,
)

from hedgerow.codes import code, code_from
from hedgerow.likeness import likeness, sorts, turnings

FORK = (7, [(0, 3), (1, 3), (2, 5), (3, 4), (4, 5), (5, 6)])
# The least hedge of more than one knot that has but one turning.
STIFF = (7, [(0, 1), (1, 2), (2, 3), (2, 4), (4, 5), (5, 6)])


def all_turnings(hedge):
    """Every turning, by trying all orders of the knots."""
    orders = itertools.permutations(range(hedge[0]))
    return [names for names in orders if renumbered(hedge, names) == hedge]


def twins_of(hedge, knot, found):
    return sorted({names[knot] for names in found})


def doubled(hedge):
    """Two hedges of one shape, joined by a rod from last knot to last knot."""
    many = hedge[0]
    rods = hedge[1] + [(a + many, b + many) for a, b in hedge[1]] + [(many - 1, 2 * many - 1)]
    return (2 * many, sorted(rods))


class LikenessTest(unittest.TestCase):
    def assert_likeness(self, one, other):
        told = likeness(one, other)
        self.assertIs(type(told), list)
        self.assertEqual(sorted(told), list(range(one[0])))
        self.assertEqual(renumbered(one, told), other)

    def test_one_knot_and_two(self):
        self.assertEqual(likeness((1, []), (1, [])), [0])
        self.assertIn(likeness((2, [(0, 1)]), (2, [(0, 1)])), ([0, 1], [1, 0]))

    def test_knots_of_the_first_have_knots_of_the_second(self):
        # Put the other way round this would be [1, 2, 0], or the like.
        self.assertIn(likeness((3, [(0, 1), (0, 2)]), (3, [(0, 2), (1, 2)])), ([2, 0, 1], [2, 1, 0]))
        self.assertEqual(likeness(STIFF, renumbered(STIFF, [3, 0, 6, 2, 4, 5, 1])), [3, 0, 6, 2, 4, 5, 1])

    def test_all_small_hedges_in_all_pairs(self):
        for many in range(1, 6):
            hedges = [hedge for hedge in small_hedges() if hedge[0] == many]
            forms = [first_form(hedge) for hedge in hedges]
            for one, first in zip(hedges, forms):
                for other, second in zip(hedges[::3], forms[::3]):
                    if first == second:
                        self.assert_likeness(one, other)
                    else:
                        self.assertIsNone(likeness(one, other))

    def test_hedges_of_as_many_knots_and_unlike_shape(self):
        self.assertIsNone(likeness(row(4), star(4)))
        self.assertIsNone(likeness(row(40), star(40)))
        hedges = grown_hedges(6)
        forms = [repr(first_form(hedge)) for hedge in hedges]
        for at, hedge in enumerate(hedges):
            other = (at * 7 + 3) % len(hedges)
            self.assertEqual(likeness(hedge, hedges[other]) is None, forms[at] != forms[other])

    def test_hedges_of_unlike_size(self):
        for one, other in itertools.permutations([(1, []), (2, [(0, 1)]), row(3), row(39), row(40), star(40)], 2):
            self.assertIsNone(likeness(one, other))

    def test_large_hedges_in_other_orders(self):
        for hedge in large_hedges() + [doubled(grown(20, 8)), doubled(row(20)), doubled(star(19))]:
            for seed in range(4):
                self.assert_likeness(hedge, renumbered(hedge, lot_of(hedge[0], seed)))
                self.assert_likeness(renumbered(hedge, lot_of(hedge[0], seed)), hedge)
            self.assert_likeness(hedge, hedge)

    def test_there_is_one_just_if_codes_are_equal(self):
        hedges = large_hedges() + [renumbered(hedge, lot_of(hedge[0], 9)) for hedge in large_hedges()]
        for one, other in itertools.product(hedges, repeat=2):
            self.assertEqual(likeness(one, other) is not None, code(one) == code(other))


class TurningsTest(unittest.TestCase):
    def test_one_knot_and_two(self):
        self.assertEqual(turnings((1, [])), 1)
        self.assertEqual(turnings((2, [(0, 1)])), 2)

    def test_some_hedges(self):
        self.assertEqual(turnings(FORK), 8)
        self.assertEqual(turnings(STIFF), 1)
        self.assertEqual(turnings(row(5)), 2)
        self.assertEqual(turnings(star(5)), 24)

    def test_by_trying_all_orders(self):
        for hedge in small_hedges() + grown_hedges(6) + [FORK, STIFF]:
            self.assertEqual(turnings(hedge), len(all_turnings(hedge)), hedge)

    def test_forty_knots(self):
        self.assertEqual(turnings(row(40)), 2)
        self.assertEqual(turnings(star(40)), math.factorial(39))
        self.assertEqual(turnings(last_star(40)), math.factorial(39))
        self.assertEqual(turnings(doubled(star(20))), 2 * math.factorial(18) ** 2)

    def test_another_order_of_the_knots_changes_nothing(self):
        for hedge in large_hedges() + [doubled(grown(20, 8))]:
            for seed in range(3):
                self.assertEqual(turnings(renumbered(hedge, lot_of(hedge[0], seed))), turnings(hedge))

    def test_a_number_is_told(self):
        self.assertIs(type(turnings((1, []))), int)


class SortsTest(unittest.TestCase):
    def test_one_knot_and_two(self):
        self.assertEqual(sorts((1, [])), [[0]])
        self.assertEqual(sorts((2, [(0, 1)])), [[0, 1]])

    def test_some_hedges(self):
        self.assertEqual(sorts(FORK), [[0, 1, 2, 6], [3, 5], [4]])
        self.assertEqual(sorts(STIFF), [[knot] for knot in range(7)])
        self.assertEqual(sorts((4, [(0, 3), (1, 2), (1, 3)])), [[0, 2], [1, 3]])

    def test_against_all_turnings(self):
        for hedge in small_hedges() + grown_hedges(6) + [FORK, STIFF]:
            found = all_turnings(hedge)
            wanted = []
            for knot in range(hedge[0]):
                twins = twins_of(hedge, knot, found)
                if twins not in wanted:
                    wanted.append(twins)
            self.assertEqual(sorts(hedge), wanted, hedge)

    def test_forty_knots(self):
        self.assertEqual(sorts(row(40)), [[knot, 39 - knot] for knot in range(20)])
        self.assertEqual(sorts(star(40)), [[0], list(range(1, 40))])
        self.assertEqual(sorts(last_star(40)), [list(range(39)), [39]])

    def test_large_hedges(self):
        for hedge in large_hedges():
            told = sorts(hedge)
            self.assertEqual(sorted(knot for twins in told for knot in twins), list(range(hedge[0])))
            self.assertEqual([twins[0] for twins in told], sorted(twins[0] for twins in told))
            for twins in told:
                self.assertEqual(twins, sorted(twins))
                self.assertEqual(len({code_from(hedge, knot) for knot in twins}), 1)
            self.assertEqual(len({code_from(hedge, twins[0]) for twins in told}), len(told))


class WholeTest(unittest.TestCase):
    def test_what_is_handed_in_stays_and_what_is_told_is_new(self):
        for hedge in [(1, []), (2, [(0, 1)]), FORK, STIFF, row(40), star(40)]:
            assert_told_anew(self, likeness, hedge, renumbered(hedge, lot_of(hedge[0], 2)))
            assert_told_anew(self, likeness, hedge, row(6))
            assert_told_anew(self, turnings, hedge)
            assert_told_anew(self, sorts, hedge)

    def test_one_hedge_handed_in_twice(self):
        given = (3, [(0, 1), (1, 2)])
        likeness(given, given)
        self.assertEqual(given, (3, [(0, 1), (1, 2)]))

    def test_somewhat_more_than_forty_knots_are_not_refused(self):
        hedge = grown(50, 5)
        names = lot_of(50, 4)
        self.assertEqual(renumbered(hedge, likeness(hedge, renumbered(hedge, names))), renumbered(hedge, names))
        self.assertEqual(turnings(star(45)), math.factorial(44))
        self.assertEqual(sorts(star(45)), [[0], list(range(1, 45))])


if __name__ == "__main__":
    unittest.main()

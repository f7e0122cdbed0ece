"""Points 1, 13 and 14: knots hung on and cut off, hedges joined and parted."""

import unittest

from samples import (
    all_ways, assert_told_anew, beside, grown, large_hedges, last_star, row, small_hedges, star,
)

from hedgerow.deeds import cut_off, hung, joined, parted
from hedgerow.errors import NoTip, TooBig, TooSmall
from hedgerow.hedges import checked

FORK = (7, [(0, 3), (1, 3), (2, 5), (3, 4), (4, 5), (5, 6)])


def kept(hedge, knots):
    """The hedge of some knots, numbered anew in their order."""
    names = {knot: at for at, knot in enumerate(sorted(knots))}
    return (len(names), sorted((names[a], names[b]) for a, b in hedge[1] if a in names and b in names))


class Case(unittest.TestCase):
    def assert_refused(self, error, ask, *given):
        with self.assertRaises(error) as caught:
            ask(*given)
        self.assertIs(type(caught.exception), error)

    def assert_hedge(self, told, many, rods):
        self.assertEqual(told, (many, sorted(rods)))
        self.assertEqual(checked(told), told)
        self.assertIs(type(told[1]), list)
        self.assertLessEqual({type(rod) for rod in told[1]}, {tuple})


class HungTest(Case):
    def test_some_hedges(self):
        self.assertEqual(hung((1, []), 0), (2, [(0, 1)]))
        self.assertEqual(hung((2, [(0, 1)]), 0), (3, [(0, 1), (0, 2)]))
        self.assertEqual(hung((2, [(0, 1)]), 1), (3, [(0, 1), (1, 2)]))
        self.assertEqual(hung((3, [(0, 1), (1, 2)]), 0), (4, [(0, 1), (0, 3), (1, 2)]))

    def test_at_each_knot(self):
        for hedge in small_hedges() + [row(39), star(39), grown(39, 2), grown(17, 1)]:
            for knot in range(hedge[0]):
                self.assert_hedge(hung(hedge, knot), hedge[0] + 1, hedge[1] + [(knot, hedge[0])])

    def test_a_hedge_of_forty_is_refused(self):
        for hedge in [row(40), star(40), last_star(40), grown(40, 1)]:
            for knot in range(40):
                self.assert_refused(TooBig, hung, hedge, knot)
        self.assert_refused(TooBig, hung, row(41), 0)


class CutOffTest(Case):
    def test_some_hedges(self):
        self.assertEqual(cut_off((2, [(0, 1)]), 0), (1, []))
        self.assertEqual(cut_off((2, [(0, 1)]), 1), (1, []))
        self.assertEqual(cut_off((3, [(0, 1), (0, 2)]), 1), (2, [(0, 1)]))
        self.assertEqual(cut_off((4, [(0, 3), (1, 2), (1, 3)]), 0), (3, [(0, 1), (0, 2)]))
        self.assertEqual(cut_off(FORK, 2), (6, [(0, 2), (1, 2), (2, 3), (3, 4), (4, 5)]))

    def test_at_each_knot(self):
        for hedge in small_hedges()[1:] + large_hedges():
            for knot in range(hedge[0]):
                if len(beside(hedge, knot)) == 1:
                    wanted = kept(hedge, set(range(hedge[0])) - {knot})
                    self.assert_hedge(cut_off(hedge, knot), hedge[0] - 1, wanted[1])
                else:
                    self.assert_refused(NoTip, cut_off, hedge, knot)

    def test_a_knot_that_is_no_tip_is_refused(self):
        self.assert_refused(NoTip, cut_off, row(3), 1)
        self.assert_refused(NoTip, cut_off, star(40), 0)
        self.assert_refused(NoTip, cut_off, FORK, 4)

    def test_a_hedge_of_one_knot_is_refused_first(self):
        self.assert_refused(TooSmall, cut_off, (1, []), 0)
        # The hedge has no such knot, so it is no tip either.
        self.assert_refused(TooSmall, cut_off, (1, []), 1)

    def test_what_is_hung_on_is_cut_off_again(self):
        for hedge in small_hedges() + [row(39), star(39), grown(39, 5)]:
            for knot in range(hedge[0]):
                self.assertEqual(cut_off(hung(hedge, knot), hedge[0]), hedge)


class JoinedTest(Case):
    def test_some_hedges(self):
        self.assertEqual(joined((1, []), 0, (1, []), 0), (2, [(0, 1)]))
        self.assertEqual(joined((2, [(0, 1)]), 0, (2, [(0, 1)]), 1), (4, [(0, 1), (0, 3), (2, 3)]))
        self.assertEqual(joined((3, [(0, 1), (1, 2)]), 2, (1, []), 0), (4, [(0, 1), (1, 2), (2, 3)]))
        self.assertEqual(joined((1, []), 0, (3, [(0, 1), (1, 2)]), 2), (4, [(0, 3), (1, 2), (2, 3)]))

    def test_small_hedges_at_each_knot(self):
        hedges = small_hedges()[::4]
        for one in hedges:
            for other in hedges:
                moved = [(a + one[0], b + one[0]) for a, b in other[1]]
                for knot in range(one[0]):
                    place = (knot * 3 + 1) % other[0]
                    rods = one[1] + moved + [(knot, place + one[0])]
                    self.assert_hedge(joined(one, knot, other, place), one[0] + other[0], rods)

    def test_to_forty_knots(self):
        for first in range(1, 40):
            one = grown(first, first)
            other = grown(40 - first, 7)
            moved = [(a + first, b + first) for a, b in other[1]]
            told = joined(one, first - 1, other, 0)
            self.assert_hedge(told, 40, one[1] + moved + [(first - 1, first)])

    def test_more_than_forty_knots_are_refused(self):
        for first in range(1, 41):
            self.assert_refused(TooBig, joined, row(first), 0, star(41 - first), 0)
        self.assert_refused(TooBig, joined, row(40), 39, row(40), 39)
        self.assert_refused(TooBig, joined, (1, []), 0, row(40), 5)
        self.assert_refused(TooBig, joined, row(40), 5, (1, []), 0)

    def test_a_hedge_joined_to_itself(self):
        given = (3, [(0, 2), (1, 2)])
        self.assertEqual(joined(given, 1, given, 0), (6, [(0, 2), (1, 2), (1, 3), (3, 5), (4, 5)]))
        self.assertEqual(given, (3, [(0, 2), (1, 2)]))


class PartedTest(Case):
    def test_some_hedges(self):
        self.assertEqual(parted((2, [(0, 1)]), 0), ((1, []), (1, [])))
        self.assertEqual(parted((3, [(0, 1), (1, 2)]), 0), ((1, []), (2, [(0, 1)])))
        self.assertEqual(parted((3, [(0, 1), (1, 2)]), 1), ((2, [(0, 1)]), (1, [])))
        self.assertEqual(parted(FORK, 4), ((4, [(0, 2), (1, 2), (2, 3)]), (3, [(0, 1), (1, 2)])))

    def test_the_one_with_the_less_knot_is_first_and_not_the_one_with_knot_0(self):
        self.assertEqual(parted((3, [(0, 2), (1, 2)]), 1), ((1, []), (2, [(0, 1)])))
        self.assertEqual(parted((4, [(0, 3), (1, 2), (1, 3)]), 2), ((2, [(0, 1)]), (2, [(0, 1)])))
        self.assertEqual(parted((5, [(0, 4), (1, 2), (1, 3), (1, 4)]), 3), ((3, [(0, 1), (0, 2)]), (2, [(0, 1)])))

    def test_at_each_rod(self):
        for hedge in small_hedges() + large_hedges():
            ways = all_ways(hedge)
            for at, (less, more) in enumerate(hedge[1]):
                first = {knot for knot in range(hedge[0]) if more not in ways[less, knot]}
                told = parted(hedge, at)
                self.assertIs(type(told), tuple)
                self.assertEqual(told, (kept(hedge, first), kept(hedge, set(range(hedge[0])) - first)), (hedge, at))
                for part in told:
                    self.assertEqual(checked(part), part)

    def test_what_is_joined_is_parted_again(self):
        one = grown(13, 4)
        other = grown(20, 6)
        for knot in range(13):
            for place in range(20):
                whole = joined(one, knot, other, place)
                self.assertEqual(parted(whole, whole[1].index((knot, place + 13))), (one, other))


class WholeTest(Case):
    def test_what_is_handed_in_stays_and_what_is_told_is_new(self):
        for hedge in [(1, []), (2, [(0, 1)]), FORK, row(39), star(39)]:
            assert_told_anew(self, hung, hedge, hedge[0] - 1)
            assert_told_anew(self, joined, hedge, 0, (1, []), 0)
            assert_told_anew(self, joined, (1, []), 0, hedge, 0)
        for hedge in [(2, [(0, 1)]), FORK, row(40), last_star(40)]:
            assert_told_anew(self, cut_off, hedge, 0)
            assert_told_anew(self, parted, hedge, 0)

    def test_a_hedge_that_is_refused_stays_as_it_was(self):
        hedge = row(40)
        self.assert_refused(TooBig, hung, hedge, 0)
        self.assert_refused(TooBig, joined, hedge, 0, hedge, 0)
        self.assert_refused(NoTip, cut_off, hedge, 5)
        self.assertEqual(hedge, row(40))

    def test_somewhat_more_than_forty_knots_are_cut_off_and_parted(self):
        self.assertEqual(cut_off(row(45), 44), row(44))
        self.assertEqual(parted(row(45), 20), (row(21), row(24)))


if __name__ == "__main__":
    unittest.main()

"""Points 1 and 2: what a hedge is, and how what is none is refused."""

import copy
import itertools
import unittest

from samples import Sulky, all_hedges, count_parts, large_hedges, last_star, odd_things, row, small_hedges, star

from hedgerow.errors import BadHedge
from hedgerow.hedges import checked


def first_wrong(many, rods):
    """The place of the first rod that is none, does not rise or closes a ring; None where all are well."""
    for at, (a, b) in enumerate(rods):
        ahead = rods[:at + 1]
        if a not in range(many) or b not in range(many) or a >= b:
            return at
        if ahead != sorted(set(ahead)) or count_parts(many, ahead) != many - at - 1:
            return at
    return None


class Case(unittest.TestCase):
    def assert_refused(self, thing, at):
        with self.assertRaises(BadHedge) as caught:
            checked(thing)
        self.assertIs(type(caught.exception), BadHedge)
        self.assertEqual(caught.exception.at, at)
        self.assertNotIsInstance(caught.exception.at, bool)


class TakenTest(Case):
    def test_ordinary_hedges_are_told_as_they_are(self):
        for hedge in small_hedges() + large_hedges():
            with self.subTest(hedge=hedge):
                self.assertEqual(checked(hedge), hedge)

    def test_there_are_as_many_hedges_as_there_must_be(self):
        self.assertEqual([len(all_hedges(many)) for many in range(1, 6)], [1, 1, 3, 16, 125])

    def test_one_knot_and_forty_knots(self):
        self.assertEqual(checked((1, [])), (1, []))
        self.assertEqual(checked(row(40)), row(40))
        self.assertEqual(checked(star(40)), star(40))
        self.assertEqual(checked(last_star(40)), last_star(40))

    def test_the_answer_is_of_the_kinds_of_a_hedge(self):
        told = checked((3, [(0, 1), (1, 2)]))
        self.assertIs(type(told), tuple)
        self.assertIs(type(told[0]), int)
        self.assertIs(type(told[1]), list)
        self.assertEqual([type(rod) for rod in told[1]], [tuple, tuple])

    def test_the_list_is_a_new_one_each_time(self):
        for hedge in [(1, []), row(5), star(40)]:
            before = copy.deepcopy(hedge)
            first = checked(hedge)
            second = checked(hedge)
            self.assertIsNot(first[1], hedge[1])
            self.assertIsNot(first[1], second[1])
            first[1].append("more")
            self.assertEqual(hedge, before)
            self.assertEqual(second, before)
            self.assertEqual(checked(hedge), before)

    def test_later_changes_of_what_was_handed_in_do_not_reach_the_answer(self):
        rods = [(0, 1), (1, 2)]
        told = checked((3, rods))
        rods.clear()
        self.assertEqual(told, (3, [(0, 1), (1, 2)]))


class FormTest(Case):
    def test_things_of_any_kind(self):
        for thing in odd_things():
            self.assert_refused(thing, None)

    def test_tuples_of_other_lengths(self):
        for thing in [(1,), ([],), (1, [], []), (1, [], None), (2, [(0, 1)], 0)]:
            self.assert_refused(thing, None)

    def test_a_list_is_no_tuple(self):
        self.assert_refused([1, []], None)
        self.assert_refused([2, [(0, 1)]], None)

    def test_a_number_of_knots_that_is_none(self):
        for many in odd_things():
            for rods in ([], [(0, 1)]):
                self.assert_refused((many, rods), None)

    def test_true_and_false_are_no_number_of_knots(self):
        self.assert_refused((True, []), None)
        self.assert_refused((False, []), None)

    def test_floats_and_texts_are_no_number_of_knots(self):
        self.assert_refused((1.0, []), None)
        self.assert_refused((2.0, [(0, 1)]), None)
        self.assert_refused(("1", []), None)

    def test_a_number_of_knots_beyond_one_to_forty(self):
        for many in [-40, -2, -1, 0]:
            self.assert_refused((many, []), None)
        for many in [41, 42, 100, 1000]:
            self.assert_refused(row(many), None)
            self.assert_refused(star(many), None)
        self.assert_refused((10 ** 5000, []), None)

    def test_rods_in_what_is_no_list(self):
        for rods in [(), None, "", {}, set(), 0, True, b"", range(0), iter([]), Sulky()]:
            self.assert_refused((1, rods), None)
        for rods in [((0, 1),), {(0, 1)}, {(0, 1): 0}, iter([(0, 1)]), "a", b"a", range(1), Sulky()]:
            self.assert_refused((2, rods), None)

    def test_a_list_too_long_or_too_short(self):
        for many in range(1, 41):
            rods = row(many)[1]
            self.assert_refused((many, rods + [(0, many - 1)]), None)
            self.assert_refused((many, rods + rods + [None]), None)
            if rods:
                self.assert_refused((many, rods[1:]), None)
                self.assert_refused((many, rods[:-1]), None)

    def test_the_length_is_asked_ahead_of_the_rods(self):
        self.assert_refused((3, [None]), None)
        self.assert_refused((3, [(5, 1), None, (0, 0)]), None)
        self.assert_refused((1, [(1, 0)]), None)


class RodTest(Case):
    def replaced(self, hedge, at, thing):
        return (hedge[0], hedge[1][:at] + [thing] + hedge[1][at + 1:])

    def test_things_of_any_kind_at_any_place(self):
        for hedge in [row(2), row(5), star(6), row(40)]:
            for at in range(hedge[0] - 1):
                for thing in odd_things():
                    self.assert_refused(self.replaced(hedge, at, thing), at)

    def test_tuples_that_are_no_pair_of_knots(self):
        for at, (a, b) in enumerate(row(6)[1]):
            for thing in [(a,), (a, b, b), (a, b, None), [a, b], (a, [b]), ((a, b),), f"{a}-{b}", {a: b}]:
                self.assert_refused(self.replaced(row(6), at, thing), at)

    def test_ends_of_any_kind(self):
        for at, (a, b) in enumerate(row(4)[1]):
            for end in odd_things():
                self.assert_refused(self.replaced(row(4), at, (end, b)), at)
                self.assert_refused(self.replaced(row(4), at, (a, end)), at)

    def test_true_and_false_are_no_knots(self):
        for rod in [(False, True), (0, True), (False, 1)]:
            self.assert_refused((2, [rod]), 0)
        self.assert_refused((3, [(0, 1), (True, 2)]), 1)
        self.assert_refused((3, [(0, 1), (False, 2)]), 1)

    def test_floats_are_no_knots(self):
        self.assert_refused((2, [(0.0, 1)]), 0)
        self.assert_refused((2, [(0, 1.0)]), 0)

    def test_knots_that_the_hedge_does_not_have(self):
        for many in [2, 3, 8, 40]:
            last = many - 2
            self.assert_refused(self.replaced(row(many), last, (last, many)), last)
            self.assert_refused(self.replaced(row(many), last, (many, many + 1)), last)
            self.assert_refused(self.replaced(row(many), 0, (-1, 1)), 0)
            self.assert_refused(self.replaced(row(many), 0, (-2, -1)), 0)

    def test_a_rod_from_a_knot_to_itself_or_the_wrong_way_round(self):
        for hedge in [row(5), star(5), last_star(40)]:
            for at, (a, b) in enumerate(hedge[1]):
                for rod in [(a, a), (b, b), (b, a)]:
                    self.assert_refused(self.replaced(hedge, at, rod), at)

    def test_rods_that_do_not_rise_at_any_place(self):
        for hedge in [row(5), star(5), last_star(5), row(40), star(40)]:
            rods = hedge[1]
            for at in range(1, len(rods)):
                swapped = rods[:at - 1] + [rods[at], rods[at - 1]] + rods[at + 1:]
                self.assert_refused((hedge[0], swapped), at)

    def test_a_rod_twice_at_any_place(self):
        for hedge in [row(5), star(40)]:
            for at in range(1, len(hedge[1])):
                self.assert_refused(self.replaced(hedge, at, hedge[1][at - 1]), at)

    def test_a_ring_is_told_at_the_rod_that_closes_it(self):
        self.assert_refused((4, [(0, 1), (0, 2), (1, 2)]), 2)
        self.assert_refused((5, [(0, 1), (0, 2), (1, 2), (3, 4)]), 2)
        self.assert_refused((5, [(0, 1), (0, 3), (1, 2), (2, 3)]), 3)
        self.assert_refused((6, [(0, 5), (1, 2), (1, 3), (2, 3), (3, 4)]), 3)

    def test_a_ring_at_any_place_of_a_long_list(self):
        for at in range(2, 39):
            rods = [(0, knot) for knot in range(1, at + 1)] + [(1, at)]
            rods += [(at + 1, at + 2 + more) for more in range(38 - at)]
            self.assertEqual(len(rods), 39)
            self.assert_refused((40, rods), at)

    def test_a_ring_over_all_knots(self):
        rods = sorted(row(39)[1] + [(0, 38)])
        self.assert_refused((40, rods), 38)

    def test_the_first_wrong_rod_is_told(self):
        self.assert_refused((4, [(0, 1), None, (0, 0)]), 1)
        self.assert_refused((4, [(0, 2), (0, 1), (0, 9)]), 1)
        self.assert_refused((5, [(0, 1), (0, 2), (1, 2), None]), 2)
        self.assert_refused((5, [(0, 1), (0, 2), (1, 9), (1, 2)]), 2)

    def test_every_list_of_pairs_of_small_numbers(self):
        for many in range(1, 5):
            pairs = list(itertools.product(range(-1, many + 1), repeat=2))
            for rods in itertools.product(pairs, repeat=many - 1):
                self.assert_as_asked(many, list(rods))

    def test_every_rising_list_of_rods_of_six_knots(self):
        pairs = list(itertools.combinations(range(6), 2))
        for rods in itertools.combinations(pairs, 5):
            self.assert_as_asked(6, list(rods))

    def assert_as_asked(self, many, rods):
        wrong = first_wrong(many, rods)
        if wrong is None:
            self.assertEqual(checked((many, list(rods))), (many, rods))
        else:
            self.assert_refused((many, rods), wrong)

    def test_what_is_refused_stays_as_it_was(self):
        for hedge in [(3, [(0, 1), (0, 1)]), (3, [(0, 2), (0, 1)]), (4, [(0, 1), [1, 2], None]), (2, [])]:
            before = copy.deepcopy(hedge)
            with self.assertRaises(BadHedge):
                checked(hedge)
            self.assertEqual(hedge, before)


if __name__ == "__main__":
    unittest.main()

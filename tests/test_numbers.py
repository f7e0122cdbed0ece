"""Points 1 and 12: hedges struck off to numbers, and put up again."""

import itertools
import random
import unittest

from samples import (
    all_hedges, assert_told_anew, beside, grown, large_hedges, last_star, odd_things, row, star,
)

from hedgerow.errors import BadNumbers
from hedgerow.hedges import checked
from hedgerow.numbers import hedge_of, struck

FORK = (7, [(0, 3), (1, 3), (2, 5), (3, 4), (4, 5), (5, 6)])


def wanted_numbers(hedge):
    """Tip by tip as the document tells it."""
    rods = set(hedge[1])
    knots = set(range(hedge[0]))
    written = []
    while len(knots) > 2:
        ends = [end for rod in rods for end in rod]
        tip = min(knot for knot in knots if ends.count(knot) == 1)
        rod = [rod for rod in rods if tip in rod][0]
        written.append(rod[0] + rod[1] - tip)
        rods.remove(rod)
        knots.remove(tip)
    return written


class StruckTest(unittest.TestCase):
    def test_some_hedges(self):
        self.assertEqual(struck((2, [(0, 1)])), [])
        self.assertEqual(struck((3, [(0, 1), (1, 2)])), [1])
        self.assertEqual(struck((3, [(0, 1), (0, 2)])), [0])
        self.assertEqual(struck(FORK), [3, 3, 5, 4, 5])
        self.assertEqual(struck((6, [(0, 3), (1, 3), (2, 3), (3, 4), (4, 5)])), [3, 3, 3, 4])

    def test_forty_knots(self):
        self.assertEqual(struck(row(40)), list(range(1, 39)))
        self.assertEqual(struck(star(40)), [0] * 38)
        self.assertEqual(struck(last_star(40)), [39] * 38)

    def test_tip_by_tip(self):
        for many in range(2, 7):
            for hedge in all_hedges(many):
                self.assertEqual(struck(hedge), wanted_numbers(hedge), hedge)
        for hedge in large_hedges():
            self.assertEqual(struck(hedge), wanted_numbers(hedge), hedge)

    def test_each_knot_is_there_once_less_than_it_has_neighbours(self):
        for hedge in large_hedges():
            told = struck(hedge)
            for knot in range(hedge[0]):
                self.assertEqual(told.count(knot) + 1, len(beside(hedge, knot)))

    def test_somewhat_beyond_nothing_is_refused(self):
        self.assertEqual(struck((1, [])), [])
        self.assertEqual(struck(row(45)), list(range(1, 44)))


class HedgeOfTest(unittest.TestCase):
    def test_some_numbers(self):
        self.assertEqual(hedge_of(2, []), (2, [(0, 1)]))
        self.assertEqual(hedge_of(3, [0]), (3, [(0, 1), (0, 2)]))
        self.assertEqual(hedge_of(3, [1]), (3, [(0, 1), (1, 2)]))
        self.assertEqual(hedge_of(3, [2]), (3, [(0, 2), (1, 2)]))
        self.assertEqual(hedge_of(7, [3, 3, 5, 4, 5]), FORK)

    def test_forty_knots(self):
        self.assertEqual(hedge_of(40, list(range(1, 39))), row(40))
        self.assertEqual(hedge_of(40, [0] * 38), star(40))
        self.assertEqual(hedge_of(40, [39] * 38), last_star(40))

    def test_struck_and_put_up_again(self):
        for many in range(2, 7):
            for hedge in all_hedges(many):
                self.assertEqual(hedge_of(many, struck(hedge)), hedge)
        for hedge in large_hedges():
            self.assertEqual(hedge_of(hedge[0], struck(hedge)), hedge)

    def test_put_up_and_struck_off_again(self):
        for many in range(2, 7):
            for numbers in itertools.product(range(many), repeat=many - 2):
                self.assert_back(many, list(numbers))
        lot = random.Random(12)
        for many in list(range(7, 41)) + [40] * 10:
            self.assert_back(many, [lot.randrange(many) for place in range(many - 2)])

    def assert_back(self, many, numbers):
        told = hedge_of(many, numbers)
        self.assertEqual(checked(told), told)
        self.assertEqual(struck(told), numbers)


class RefusedTest(unittest.TestCase):
    def assert_refused(self, many, numbers):
        with self.assertRaises(BadNumbers) as caught:
            hedge_of(many, numbers)
        self.assertIs(type(caught.exception), BadNumbers)

    def test_a_number_of_knots_of_any_kind(self):
        for many in odd_things() + [2.0, 3.0, "2", "3", [2], (2,), b"2"]:
            for numbers in ([], [0], [0, 0]):
                self.assert_refused(many, numbers)

    def test_numbers_of_any_kind(self):
        for thing in odd_things():
            if thing.__class__ is not list or thing:
                self.assert_refused(2, thing)
            self.assert_refused(3, thing)
            self.assert_refused(40, thing)

    def test_both_of_any_kind(self):
        for many, numbers in itertools.product(odd_things(), repeat=2):
            self.assert_refused(many, numbers)

    def test_what_is_no_list(self):
        for numbers in [(), "", {}, set(), None, 0, False, range(0), iter([])]:
            self.assert_refused(2, numbers)
        for numbers in [(0,), "0", {0}, {0: 0}, 0, range(1), iter([0]), b"\x00"]:
            self.assert_refused(3, numbers)

    def test_things_of_any_kind_at_any_place(self):
        for thing in odd_things():
            self.assert_refused(3, [thing])
            for at in range(4):
                self.assert_refused(6, [1] * at + [thing] + [1] * (3 - at))

    def test_true_and_false_are_no_numbers(self):
        self.assert_refused(True, [])
        self.assert_refused(False, [])
        self.assert_refused(3, [True])
        self.assert_refused(3, [False])
        self.assert_refused(5, [0, True, 0])

    def test_a_list_too_long_or_too_short(self):
        for many in range(2, 41):
            for length in range(42):
                if length != many - 2:
                    self.assert_refused(many, [0] * length)
        self.assert_refused(2, [0])
        self.assert_refused(3, [])
        self.assert_refused(3, [0, 0])

    def test_numbers_below_nought_or_beyond(self):
        for many in [3, 4, 17, 40]:
            for number in [-1, -2, -many, many, many + 1, 10 ** 5000, -10 ** 5000]:
                for at in range(many - 2):
                    self.assert_refused(many, [0] * at + [number] + [0] * (many - 3 - at))

    def test_a_number_of_knots_beyond_two_to_forty(self):
        for many in [-1, 0, 1]:
            for numbers in ([], [0]):
                self.assert_refused(many, numbers)
        for many in [41, 42, 60, 1000]:
            self.assert_refused(many, [0] * (many - 2))
            self.assert_refused(many, list(range(many - 2)))

    def test_what_is_refused_stays_as_it_was(self):
        numbers = [0, 5, True]
        self.assert_refused(5, numbers)
        self.assertEqual(repr(numbers), "[0, 5, True]")


class WholeTest(unittest.TestCase):
    def test_what_is_handed_in_stays_and_what_is_told_is_new(self):
        for hedge in [(2, [(0, 1)]), (3, [(0, 1), (0, 2)]), FORK, row(40), star(40), grown(40, 3)]:
            assert_told_anew(self, struck, hedge)
            assert_told_anew(self, hedge_of, hedge[0], struck(hedge))

    def test_kinds(self):
        self.assertIs(type(struck((2, [(0, 1)]))), list)
        told = hedge_of(4, [1, 1])
        self.assertIs(type(told), tuple)
        self.assertIs(type(told[1]), list)
        self.assertEqual({type(rod) for rod in told[1]}, {tuple})
        self.assertIs(type(hedge_of(2, [])[1][0]), tuple)


if __name__ == "__main__":
    unittest.main()

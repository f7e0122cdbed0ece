"""Points 1 and 4: a hedge written as a row, and read to the same hedge."""

import copy
import itertools
import unittest

from samples import large_hedges, odd_things, row, small_hedges, star

from hedgerow.errors import BadText
from hedgerow.texts import read, shown

SIGNS = "0123456789- "


def one_sign_off(text, signs):
    """All texts that are made of a text by adding, leaving out or putting another sign at one place."""
    made = set()
    for at in range(len(text) + 1):
        for sign in signs:
            made.add(text[:at] + sign + text[at:])
            made.add(text[:at] + sign + text[at + 1:])
        made.add(text[:at] + text[at + 1:])
    return sorted(made - {text})


class Case(unittest.TestCase):
    def assert_refused(self, text):
        with self.assertRaises(BadText) as caught:
            read(text)
        self.assertIs(type(caught.exception), BadText)


class ShownTest(Case):
    def test_rows(self):
        self.assertEqual(shown((1, [])), "1")
        self.assertEqual(shown((2, [(0, 1)])), "2 0-1")
        self.assertEqual(shown((3, [(0, 2), (1, 2)])), "3 0-2 1-2")
        self.assertEqual(shown((4, [(0, 1), (0, 2), (0, 3)])), "4 0-1 0-2 0-3")

    def test_forty_knots(self):
        self.assertEqual(shown(star(40)), "40 " + " ".join("0-" + str(knot) for knot in range(1, 40)))
        self.assertTrue(shown(row(40)).endswith(" 36-37 37-38 38-39"))

    def test_somewhat_more_knots_are_not_refused(self):
        self.assertTrue(shown(row(45)).startswith("45 0-1 1-2 "))

    def test_a_hedge_stays_as_it_was(self):
        for hedge in large_hedges():
            before = copy.deepcopy(hedge)
            first = shown(hedge)
            self.assertEqual(shown(hedge), first)
            self.assertEqual(hedge, before)


class ReadTest(Case):
    def test_rows(self):
        self.assertEqual(read("1"), (1, []))
        self.assertEqual(read("2 0-1"), (2, [(0, 1)]))
        self.assertEqual(read("3 0-2 1-2"), (3, [(0, 2), (1, 2)]))

    def test_what_is_shown_is_read_to_the_same_hedge(self):
        for hedge in small_hedges() + large_hedges():
            with self.subTest(hedge=hedge):
                self.assertEqual(read(shown(hedge)), hedge)

    def test_the_answer_is_of_the_kinds_of_a_hedge(self):
        told = read("3 0-2 1-2")
        self.assertIs(type(told), tuple)
        self.assertIs(type(told[0]), int)
        self.assertIs(type(told[1]), list)
        self.assertEqual([type(rod) for rod in told[1]], [tuple, tuple])

    def test_the_list_is_a_new_one_each_time(self):
        for text in ["1", "3 0-2 1-2"]:
            first = read(text)
            kept = copy.deepcopy(first)
            first[1].append("more")
            self.assertEqual(read(text), kept)

    def test_things_of_any_kind(self):
        for thing in odd_things() + [1, 2, 40, (1, []), (2, [(0, 1)]), ["1"], ("1",), [], b"2 0-1"]:
            self.assert_refused(thing)


class RefusedTest(Case):
    def test_blanks_where_none_are_written(self):
        for text in ["", " ", "1 ", " 1", "2  0-1", "2 0-1 ", " 2 0-1", "2 0 -1", "2 0- 1", "3 0-1  1-2"]:
            self.assert_refused(text)

    def test_other_white_space(self):
        for text in ["1\n", "\n1", "1\r\n", "1\t", "2\t0-1", "2\n0-1", "2 0-1\n", "2\u00a00-1", "2\u20030-1", "1\x00"]:
            self.assert_refused(text)

    def test_numbers_otherwise_written(self):
        for text in ["01", "+1", "1.0", "0x1", "1_", "2 00-1", "2 0-01", "2 -0-1", "2 0-+1", "02 0-1", "2.0 0-1"]:
            self.assert_refused(text)
        for text in ["1" + "0" * 5000, "0" * 5000 + "1", "2 0-" + "1" * 5000]:
            self.assert_refused(text)
        self.assert_refused(shown(row(11)).replace("10", "1_0"))

    def test_digits_of_other_scripts(self):
        for text in ["\u0661", "\uff11", "\u00b9", "\u2460", "2 \u0660-1", "2 0-\uff11", "\u0662 0-1"]:
            self.assert_refused(text)

    def test_other_signs(self):
        for text in ["hedge", "one", "2 0:1", "2 0,1", "2,0-1", "2 0\u20131", "2 (0, 1)", "(1, [])", "\ud800", "1\ud800"]:
            self.assert_refused(text)

    def test_rods_that_are_not_two_knots(self):
        for text in ["2 0", "2 -", "2 0-", "2 -1", "2 01", "2 0--1", "2 0-1-", "2 -0-1", "3 0-1-2", "3 0-1 2", "2 0-1-1"]:
            self.assert_refused(text)

    def test_a_number_of_knots_beyond_one_to_forty(self):
        for text in ["0", "-1", "-0", "41", shown(row(41)), shown(star(41)), shown(row(60)), shown(star(100))]:
            self.assert_refused(text)

    def test_too_many_or_too_few_rods(self):
        for text in ["1 0-1", "1 0-0", "2", "2 0-1 0-1", "3 0-1", "3 0-1 0-2 1-2", "40"]:
            self.assert_refused(text)

    def test_rods_that_are_none_do_not_rise_or_close_a_ring(self):
        for text in ["2 1-0", "2 0-0", "2 1-1", "2 0-2", "2 1-2", "3 1-2 0-1", "3 0-2 0-1", "3 0-1 0-1",
                     "4 0-1 0-2 1-2", "5 0-1 0-3 1-2 2-3", "40 0-40", "2 0-40", "2 0-99"]:
            self.assert_refused(text)

    def test_of_all_short_texts_just_those_that_are_shown_are_read(self):
        known = {shown(hedge): hedge for hedge in small_hedges()}
        for length in range(6):
            for signs in itertools.product("012- 3", repeat=length):
                self.assert_just_known("".join(signs), known)

    def test_of_all_texts_one_sign_off_just_those_that_are_shown_are_read(self):
        known = {shown(hedge): hedge for hedge in small_hedges()}
        for text in [text for text in known if len(text) <= 14]:
            for other in one_sign_off(text, SIGNS + "_+\n\u0661"):
                self.assert_just_known(other, known)

    def assert_just_known(self, text, known):
        if text in known:
            self.assertEqual(read(text), known[text])
        else:
            self.assert_refused(text)

    def test_a_long_text_one_sign_off_is_read_only_if_it_is_shown(self):
        for hedge in large_hedges()[-3:]:
            text = shown(hedge)
            self.assertEqual(read(text), hedge)
            for other in one_sign_off(text, SIGNS):
                self.assert_shown_or_refused(other)

    def assert_shown_or_refused(self, text):
        try:
            told = read(text)
        except BadText:
            return
        self.assertEqual(shown(told), text)


if __name__ == "__main__":
    unittest.main()

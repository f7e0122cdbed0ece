"""Points 1, 7 and 9: codes of hedges, bracket texts that are read to hedges, hedges that are set."""

import itertools
import unittest

from samples import (
    assert_told_anew, all_lengths, beside, first_form, grown, grown_hedges, large_hedges, last_star, lot_of,
    odd_things, renumbered, row, small_hedges, star,
)

from hedgerow.codes import code, code_from, read_code, settled
from hedgerow.errors import BadCode
from hedgerow.hedges import checked

FORK = (7, [(0, 3), (1, 3), (2, 5), (3, 4), (4, 5), (5, 6)])


def wanted_from(hedge, knot, over=None):
    """The code from a knot, knot by knot as the document tells it."""
    inner = [wanted_from(hedge, near, knot) for near in beside(hedge, knot) if near != over]
    return "(" + "".join(sorted(inner)[::-1]) + ")"


def wanted_code(hedge):
    far = [max(lengths) for lengths in all_lengths(hedge)]
    return max(wanted_from(hedge, knot) for knot in range(hedge[0]) if far[knot] == min(far))


def bracket_texts(many):
    """All bracket texts of so many knots."""
    if many == 0:
        return []
    return ["(" + inner + ")" for inner in rows_of_texts(many - 1)]


def rows_of_texts(many):
    if many == 0:
        return [""]
    return [text + rest for first in range(1, many + 1)
            for text in bracket_texts(first) for rest in rows_of_texts(many - first)]


class Case(unittest.TestCase):
    def assert_refused(self, text):
        with self.assertRaises(BadCode) as caught:
            read_code(text)
        self.assertIs(type(caught.exception), BadCode)


class CodeFromTest(Case):
    def test_one_knot_and_two(self):
        self.assertEqual(code_from((1, []), 0), "()")
        self.assertEqual(code_from((2, [(0, 1)]), 0), "(())")
        self.assertEqual(code_from((2, [(0, 1)]), 1), "(())")

    def test_the_greatest_branch_comes_first(self):
        # `(` is less than `)`: a branch of one knot is the greatest of all.
        hedge = (5, [(0, 1), (0, 2), (0, 4), (2, 3)])
        self.assertEqual(code_from(hedge, 0), "(()()(()))")
        self.assertEqual(code_from(hedge, 1), "((()(())))")
        self.assertEqual(code_from(hedge, 2), "(()(()()))")
        self.assertEqual(code_from(hedge, 3), "(((()())))")

    def test_branches_within_branches_are_in_order_too(self):
        self.assertEqual(code_from((6, [(0, 1), (1, 2), (1, 4), (2, 3), (4, 5)]), 0), "(((())(())))")
        self.assertEqual(code_from((6, [(0, 1), (1, 2), (1, 5), (2, 3), (2, 4)]), 0), "((()(()())))")

    def test_forty_knots(self):
        self.assertEqual(code_from(row(40), 0), "(" * 40 + ")" * 40)
        self.assertEqual(code_from(row(40), 1), "(()" + "(" * 38 + ")" * 38 + ")")
        self.assertEqual(code_from(star(40), 0), "(" + "()" * 39 + ")")
        self.assertEqual(code_from(star(40), 7), "((" + "()" * 38 + "))")

    def test_against_the_document_knot_by_knot(self):
        for hedge in small_hedges() + grown_hedges(6) + large_hedges():
            for knot in range(hedge[0]):
                self.assertEqual(code_from(hedge, knot), wanted_from(hedge, knot), (hedge, knot))


class CodeTest(Case):
    def test_one_middle_knot(self):
        self.assertEqual(code((1, [])), "()")
        self.assertEqual(code((3, [(0, 2), (1, 2)])), "(()())")
        self.assertEqual(code(FORK), "((()())(()()))")
        self.assertEqual(code(star(40)), "(" + "()" * 39 + ")")
        self.assertEqual(code(last_star(40)), "(" + "()" * 39 + ")")

    def test_of_two_middle_knots_the_greatest(self):
        self.assertEqual(code((2, [(0, 1)])), "(())")
        self.assertEqual(code(row(4)), "(()(()))")
        for hedge in [(5, [(0, 1), (1, 2), (2, 3), (2, 4)]), (5, [(0, 4), (1, 2), (1, 3), (1, 4)])]:
            self.assertEqual(code(hedge), "(()()(()))")
        self.assertEqual(code(row(40)), "(" + "(" * 19 + ")" * 19 + "(" * 20 + ")" * 20 + ")")

    def test_against_the_document_knot_by_knot(self):
        for hedge in small_hedges() + grown_hedges(6) + large_hedges():
            self.assertEqual(code(hedge), wanted_code(hedge), hedge)

    def test_codes_are_equal_just_if_hedges_are_of_one_shape(self):
        for many in range(1, 7):
            made = grown_hedges(many) + [renumbered(hedge, lot_of(many, 1)) for hedge in grown_hedges(many)]
            forms = {}
            for hedge in made:
                forms.setdefault(repr(first_form(hedge)), set()).add(code(hedge))
            self.assertEqual({len(codes) for codes in forms.values()}, {1})
            self.assertEqual(len(set.union(*forms.values())), len(forms))

    def test_another_order_of_the_knots_changes_nothing(self):
        for hedge in large_hedges():
            for seed in range(5):
                self.assertEqual(code(renumbered(hedge, lot_of(hedge[0], seed))), code(hedge))


class ReadCodeTest(Case):
    def test_some_texts(self):
        self.assertEqual(read_code("()"), (1, []))
        self.assertEqual(read_code("(())"), (2, [(0, 1)]))
        self.assertEqual(read_code("(()())"), (3, [(0, 1), (0, 2)]))
        self.assertEqual(read_code("((()())(()()))"), (7, [(0, 1), (0, 4), (1, 2), (1, 3), (4, 5), (4, 6)]))

    def test_texts_that_are_no_codes_are_read_too(self):
        self.assertEqual(read_code("((()))"), (3, [(0, 1), (1, 2)]))
        self.assertEqual(read_code("((())())"), (4, [(0, 1), (0, 3), (1, 2)]))
        self.assertEqual(read_code("(((()))(())())"), (7, [(0, 1), (0, 4), (0, 6), (1, 2), (2, 3), (4, 5)]))

    def test_forty_knots(self):
        self.assertEqual(read_code("(" * 40 + ")" * 40), row(40))
        self.assertEqual(read_code("(" + "()" * 39 + ")"), star(40))

    def test_all_texts_of_few_signs(self):
        known = {text for many in range(1, 7) for text in bracket_texts(many)}
        self.assertEqual(len(known), 1 + 1 + 2 + 5 + 14 + 42)
        for length in range(13):
            for signs in itertools.product("()", repeat=length):
                text = "".join(signs)
                if text in known:
                    self.assert_read(text)
                else:
                    self.assert_refused(text)

    def assert_read(self, text):
        told = read_code(text)
        self.assertEqual(checked(told), told)
        self.assertEqual(self.written(told, 0), text)

    def written(self, hedge, knot):
        """The text with each knot's branches in the order of their first knots, and knots numbered as told."""
        return "(" + "".join(self.written(hedge, near) for near in beside(hedge, knot) if near > knot) + ")"

    def test_codes_from_any_knot_are_read_and_written_again(self):
        for hedge in large_hedges():
            for knot in range(0, hedge[0], 7):
                text = code_from(hedge, knot)
                self.assert_read(text)
                self.assertEqual(code_from(read_code(text), 0), text)


class RefusedTest(Case):
    def test_things_of_any_kind(self):
        for thing in odd_things() + [0, 1, 40, (1, []), ["()"], ("()",), ["(", ")"], b"()", {"()": 1}, {"()"}]:
            self.assert_refused(thing)

    def test_the_empty_text(self):
        self.assert_refused("")

    def test_brackets_that_do_not_match(self):
        for text in ["(", ")", ")(", "(()", "())", "(()))", "((())", "())(", ")()", "(" * 40, ")" * 40, "(" * 40 + ")" * 39]:
            self.assert_refused(text)

    def test_more_than_one_side_by_side(self):
        for text in ["()()", "(())()", "()(())", "()" * 40, "()()()", "(" * 20 + ")" * 20 + "()"]:
            self.assert_refused(text)

    def test_other_signs(self):
        for sign in [" ", "\n", "a", "0", "[", "]", "-", "\x00", "\uff08", "\u0028\u0301", "\ud800"]:
            for at in range(5):
                self.assert_refused("(())"[:at] + sign + "(())"[at:])
            self.assert_refused(sign)
        for text in ["[]", "(a)", "( )", " ()", "() ", "()\n", "{}", "<>", "\uff08\uff09", "1", "2 0-1"]:
            self.assert_refused(text)

    def test_more_than_forty_knots(self):
        self.assert_refused("(" * 41 + ")" * 41)
        self.assert_refused("(" + "()" * 40 + ")")
        self.assert_refused("(" * 50000 + ")" * 50000)
        self.assert_refused("(" + "()" * 50000 + ")")
        self.assert_refused("(" * 100000)
        self.assert_refused(")" * 100000)


class SettledTest(Case):
    def test_some_hedges(self):
        self.assertEqual(settled((1, [])), (1, []))
        self.assertEqual(settled((2, [(0, 1)])), (2, [(0, 1)]))
        self.assertEqual(settled(row(4)), (4, [(0, 1), (0, 2), (2, 3)]))
        self.assertEqual(settled(last_star(40)), star(40))
        self.assertEqual(settled(FORK), (7, [(0, 1), (0, 4), (1, 2), (1, 3), (4, 5), (4, 6)]))

    def test_it_is_read_from_the_code_and_has_it(self):
        for hedge in small_hedges() + grown_hedges(6) + large_hedges():
            told = settled(hedge)
            self.assertEqual(told, read_code(code(hedge)))
            self.assertEqual(checked(told), told)
            self.assertEqual(code(told), code(hedge))
            self.assertEqual(settled(told), told)

    def test_hedges_of_one_shape_are_set_to_one_hedge(self):
        for hedge in grown_hedges(5):
            for names in itertools.permutations(range(5)):
                self.assertEqual(settled(renumbered(hedge, names)), settled(hedge))
        for hedge in large_hedges():
            for seed in range(5):
                self.assertEqual(settled(renumbered(hedge, lot_of(hedge[0], seed))), settled(hedge))

    def test_hedges_of_unlike_shape_are_not(self):
        forms = {}
        for hedge in grown_hedges(6):
            forms[repr(settled(hedge))] = repr(first_form(hedge))
        self.assertEqual(len(forms), 6)
        self.assertEqual(len(set(forms.values())), 6)


class WholeTest(Case):
    def test_what_is_handed_in_stays_and_what_is_told_is_new(self):
        for hedge in [(1, []), (2, [(0, 1)]), FORK, row(40), star(40), grown(40, 6)]:
            assert_told_anew(self, code, hedge)
            assert_told_anew(self, code_from, hedge, hedge[0] - 1)
            assert_told_anew(self, settled, hedge)
            assert_told_anew(self, read_code, code(hedge))

    def test_what_is_refused_stays_as_it_was(self):
        given = ["(", ")"]
        self.assert_refused(given)
        self.assertEqual(given, ["(", ")"])

    def test_kinds(self):
        self.assertIs(type(code(FORK)), str)
        self.assertIs(type(code_from(FORK, 2)), str)
        for told in [settled(FORK), read_code("(()())")]:
            self.assertIs(type(told), tuple)
            self.assertIs(type(told[1]), list)
            self.assertEqual({type(rod) for rod in told[1]}, {tuple})

    def test_somewhat_more_than_forty_knots_are_not_refused(self):
        self.assertEqual(code(star(45)), "(" + "()" * 44 + ")")
        self.assertEqual(code_from(row(60), 0), "(" * 60 + ")" * 60)
        self.assertEqual(settled(last_star(45)), star(45))


if __name__ == "__main__":
    unittest.main()

"""Points 1 and 11: the codes of all hedges of a size."""

import unittest

from samples import all_hedges, assert_told_anew, first_form, grown_hedges

from hedgerow.codes import code, read_code
from hedgerow.shapes import shapes


class ShapesTest(unittest.TestCase):
    def test_how_many_there_are(self):
        self.assertEqual([len(shapes(many)) for many in range(1, 9)], [1, 1, 1, 2, 3, 6, 11, 23])

    def test_few_knots(self):
        self.assertEqual(shapes(1), ["()"])
        self.assertEqual(shapes(2), ["(())"])
        self.assertEqual(shapes(3), ["(()())"])
        self.assertEqual(shapes(4), ["(()(()))", "(()()())"])
        self.assertEqual(shapes(5), ["((())(()))", "(()()(()))", "(()()()())"])

    def test_each_once_and_rising(self):
        for many in range(1, 9):
            told = shapes(many)
            self.assertEqual(told, sorted(set(told)))

    def test_each_is_the_code_of_a_hedge_of_the_size(self):
        for many in range(1, 9):
            for text in shapes(many):
                self.assertEqual(read_code(text)[0], many)
                self.assertEqual(code(read_code(text)), text)

    def test_the_code_of_every_hedge_is_there(self):
        for many in range(1, 7):
            self.assertEqual(shapes(many), sorted({code(hedge) for hedge in all_hedges(many)}))
        for many in (7, 8):
            self.assertEqual(shapes(many), sorted({code(hedge) for hedge in grown_hedges(many)}))

    def test_no_two_are_of_one_shape(self):
        for many in range(1, 7):
            forms = {repr(first_form(read_code(text))) for text in shapes(many)}
            self.assertEqual(len(forms), len(shapes(many)))

    def test_the_list_is_a_new_one_each_time(self):
        for many in range(1, 9):
            assert_told_anew(self, shapes, many)
            self.assertIs(type(shapes(many)), list)
            self.assertEqual({type(text) for text in shapes(many)}, {str})

    def test_somewhat_more_knots_are_not_refused(self):
        self.assertEqual(shapes(0), [])
        self.assertEqual(len(shapes(9)), 47)
        self.assertEqual(len(shapes(10)), 106)


if __name__ == "__main__":
    unittest.main()

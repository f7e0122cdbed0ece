"""The error classes of the interface: which stands under which, and `at` of BadHedge."""

import unittest

from hedgerow import errors
from hedgerow.errors import BadCode, BadHedge, BadNumbers, BadText, HedgeError, NoTip, TooBig, TooSmall

PLAIN = [BadText, BadCode, BadNumbers, TooBig, TooSmall, NoTip]


class ErrorsTest(unittest.TestCase):
    def test_any_refusal_stands_under_value_error(self):
        self.assertEqual(HedgeError.__bases__, (ValueError,))

    def test_each_refusal_stands_straight_under_hedge_error(self):
        for kind in PLAIN + [BadHedge]:
            with self.subTest(kind=kind.__name__):
                self.assertEqual(kind.__bases__, (HedgeError,))

    def test_classes_bear_their_names(self):
        for kind in PLAIN + [BadHedge, HedgeError]:
            self.assertIs(getattr(errors, kind.__name__), kind)

    def test_plain_refusals_are_raised_and_taken(self):
        for kind in PLAIN + [HedgeError]:
            with self.subTest(kind=kind.__name__), self.assertRaises(HedgeError) as caught:
                raise kind("words")
            self.assertIs(type(caught.exception), kind)

    def test_bad_hedge_has_its_place(self):
        for at in (None, 0, 1, 38):
            with self.subTest(at=at):
                self.assertEqual(BadHedge(at).at, at)
                self.assertIsInstance(str(BadHedge(at)), str)

    def test_each_bad_hedge_has_a_place_of_its_own(self):
        first = BadHedge(3)
        second = BadHedge(None)
        self.assertEqual((first.at, second.at), (3, None))
        self.assertNotIn("at", vars(BadHedge))


if __name__ == "__main__":
    unittest.main()

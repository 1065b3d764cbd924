"""What a whole number is, handed in (point 2) or as a word of a text (point 6)."""

import unittest

from shutways.wholes import is_numeral, is_whole, is_whole_between


class WholesTest(unittest.TestCase):

    def test_ints_are_whole_numbers(self):
        for thing in (0, 1, -1, 999, 10 ** 3999):
            self.assertIs(is_whole(thing), True)

    def test_truths_and_other_things_are_none(self):
        for thing in (True, False, None, "1", 1.0, 1j, b"1", [1], (1,), {1: 1}, {1}, int):
            self.assertIs(is_whole(thing), False, thing)

    def test_between_takes_both_bounds(self):
        told = [thing for thing in range(-2, 9) if is_whole_between(thing, 0, 5)]
        self.assertEqual(told, [0, 1, 2, 3, 4, 5])

    def test_between_lets_no_truth_by(self):
        for thing in (True, False, 1.0, "1", None):
            self.assertIs(is_whole_between(thing, 0, 5), False, thing)

    def test_numerals(self):
        for word in ("0", "1", "9", "10", "100", "999", "1000", "9999"):
            self.assertIs(is_numeral(word, 4), True, word)

    def test_no_numerals(self):
        for word in (
                "", "00", "01", "-0", "-1", "+1", "1_0", "1 ", " 1", "1\n", "\t1", "1.", "1e1",
                "0x1", "a", "10000", "9" * 5000, "\u0661", "\u00b2", "\uff11", "1\u0661", "1\x00"):
            self.assertIs(is_numeral(word, 4), False, repr(word)[:40])


if __name__ == "__main__":
    unittest.main()

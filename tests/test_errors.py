"""The refusals' classes, as the interface tells them."""

import unittest

from shutways.errors import (
    NoCommand, NoDeed, NoFrame, NoLetter, NoLine, NoNet, NoOrder, ShutError)

SEVEN = (NoNet, NoLetter, NoDeed, NoFrame, NoOrder, NoLine, NoCommand)


class ErrorsTest(unittest.TestCase):

    def test_shut_error_is_under_value_error(self):
        self.assertTrue(issubclass(ShutError, ValueError))
        self.assertIsNot(ShutError, ValueError)

    def test_each_of_the_seven_is_under_shut_error(self):
        for one in SEVEN:
            self.assertTrue(issubclass(one, ShutError), one)
            self.assertIsNot(one, ShutError)

    def test_none_of_the_seven_is_under_another_one(self):
        for one in SEVEN:
            under = [other for other in SEVEN if issubclass(one, other)]
            self.assertEqual(under, [one])

    def test_names(self):
        names = [one.__name__ for one in SEVEN]
        self.assertEqual(names, [
            "NoNet", "NoLetter", "NoDeed", "NoFrame", "NoOrder", "NoLine", "NoCommand"])

    def test_raised_and_taken(self):
        for one in SEVEN:
            with self.assertRaises(ShutError):
                raise one("words")
            with self.assertRaises(ValueError):
                raise one("words")


if __name__ == "__main__":
    unittest.main()

"""Letters, as tuples and as texts (point 10)."""

import itertools
import random
import re
import unittest

from drawn import NO_NUMBERS
from shutways.errors import NoLetter
from shutways.letters import is_letter, newer, read_letter, show_letter

LETTER = ((2, 10), (2, 3), 7, 15, 4, (0, 6), None)
TEXT = "2.10 2.3 7 15 4 0.6 -"
FORTY = 10 ** 40 - 1
GREATEST = ((FORTY, FORTY), (FORTY, FORTY), 999, FORTY, FORTY, (FORTY, FORTY), (FORTY, FORTY))
LEAST = ((0, 0), (0, 0), 0, 0, 0, None, None)

PART = "(?:0|[1-9][0-9]{0,39})"
PAIR = PART + r"\." + PART
WRITTEN = re.compile(
    f"{PAIR} {PAIR} (?:0|[1-9][0-9]{{0,2}}) {PART} {PART} (?:{PAIR}|-) (?:{PAIR}|-)")


def put(things, k, thing):
    return things[:k] + (thing,) + things[k + 1:]


def drawn_letter(chance):
    def part():
        return chance.choice((0, 1, 9, 10, chance.randrange(1000), chance.randrange(10 ** 40), FORTY))

    def pair():
        return (part(), part())

    return (
        pair(), pair(), chance.choice((0, 999, chance.randrange(1000))), part(), part(),
        chance.choice((None, pair())), chance.choice((None, pair())))


class IsLetterTest(unittest.TestCase):

    def no_letter(self, thing):
        self.assertIs(is_letter(thing), False, repr(thing)[:200])

    def test_letters(self):
        both = LETTER[:6] + ((1, 1),)
        for thing in (LETTER, GREATEST, LEAST, both, put(LETTER, 5, None)):
            self.assertIs(is_letter(thing), True)

    def test_other_things(self):
        for thing in NO_NUMBERS + (0, 5, TEXT, list(LETTER), dict(enumerate(LETTER)), iter(LETTER)):
            self.no_letter(thing)

    def test_parts_too_many_and_too_few(self):
        for k in range(7):
            self.no_letter(LETTER[:k])
            self.no_letter(LETTER[k + 1:])
            self.no_letter(LETTER[:k] + LETTER[k + 1:])
        self.no_letter(LETTER + (None,))
        self.no_letter(LETTER + LETTER)
        self.no_letter((LETTER,))

    def test_each_part_of_another_kind(self):
        for k, thing in itertools.product(range(7), NO_NUMBERS):
            self.assertIs(is_letter(put(LETTER, k, thing)), thing is None and k in (5, 6), (k, thing))

    def test_numbers_in_a_pairs_place_and_back(self):
        for k in (0, 1, 5, 6):
            for thing in (0, 3, FORTY, -1):
                self.no_letter(put(LETTER, k, thing))
        for k in (2, 3, 4):
            for thing in ((1, 2), (3,), None):
                self.no_letter(put(LETTER, k, thing))

    def test_pairs(self):
        for k in (0, 1, 5, 6):
            for pair in ((), (1,), (1, 2, 3), [1, 2], {1: 2, 2: 1}, "12", ((1, 2),), (1, (2,)), (None, None)):
                self.no_letter(put(LETTER, k, pair))
            for half, thing in itertools.product(range(2), NO_NUMBERS):
                self.no_letter(put(LETTER, k, put((1, 2), half, thing)))
            for half, number in itertools.product(range(2), (-1, -FORTY, FORTY + 1, 10 ** 3000)):
                self.no_letter(put(LETTER, k, put((1, 2), half, number)))
            for half, number in itertools.product(range(2), (0, 1, 10 ** 39, FORTY)):
                self.assertIs(is_letter(put(LETTER, k, put((1, 2), half, number))), True)

    def test_bounds_of_cost_and_age(self):
        for k in (3, 4):
            for number in (0, 1, 1000, 10 ** 39, FORTY):
                self.assertIs(is_letter(put(LETTER, k, number)), True)
            for number in (-1, -FORTY, FORTY + 1, 10 ** 41, 10 ** 3000):
                self.no_letter(put(LETTER, k, number))

    def test_bounds_of_the_root(self):
        for number in (0, 1, 998, 999):
            self.assertIs(is_letter(put(LETTER, 2, number)), True)
        for number in (-1, 1000, 1001, FORTY):
            self.no_letter(put(LETTER, 2, number))


class NewerTest(unittest.TestCase):

    def test_by_life_then_count(self):
        numbers = [(0, 0), (0, 1), (0, 9), (0, 10), (1, 0), (1, 1), (9, 50), (10, 0), (FORTY, 0)]
        for one, other in itertools.product(range(len(numbers)), repeat=2):
            told = newer(put(LETTER, 0, numbers[one]), put(LETTER, 0, numbers[other]))
            self.assertIs(told, one > other)

    def test_by_nothing_else(self):
        low = ((1, 1), (0, 0), 0, 0, 0, None, None)
        high = ((1, 1), (9, 9), 999, 99, 99, (9, 9), (9, 9))
        self.assertIs(newer(low, high), False)
        self.assertIs(newer(high, low), False)
        self.assertIs(newer(put(low, 0, (1, 2)), high), True)
        self.assertIs(newer(high, put(low, 0, (1, 2))), False)


class WrittenTest(unittest.TestCase):

    def test_shown(self):
        self.assertEqual(show_letter(LETTER), TEXT)
        self.assertEqual(show_letter(LEAST), "0.0 0.0 0 0 0 - -")
        self.assertEqual(show_letter(put(LEAST, 6, (3, 0))), "0.0 0.0 0 0 0 - 3.0")
        nines = "9" * 40
        pair = f"{nines}.{nines}"
        self.assertEqual(show_letter(GREATEST), f"{pair} {pair} 999 {nines} {nines} {pair} {pair}")

    def test_read_back(self):
        self.assertEqual(read_letter(TEXT), LETTER)
        for letter in (LETTER, LEAST, GREATEST):
            self.assertEqual(read_letter(show_letter(letter)), letter)

    def test_kinds(self):
        letter = read_letter("1.2 3.4 5 6 7 8.9 10.11")
        self.assertEqual(letter, ((1, 2), (3, 4), 5, 6, 7, (8, 9), (10, 11)))
        self.assertIs(type(letter), tuple)
        self.assertTrue(all(type(letter[k]) is tuple for k in (0, 1, 5, 6)))
        self.assertTrue(all(type(letter[k]) is int for k in (2, 3, 4)))

    def test_many(self):
        chance = random.Random(10)
        for turn in range(2000):
            letter = drawn_letter(chance)
            text = show_letter(letter)
            self.assertTrue(WRITTEN.fullmatch(text))
            self.assertEqual(read_letter(text), letter)
            self.assertIs(is_letter(letter), True)


class RefusedTest(unittest.TestCase):

    def refused(self, text):
        self.assertIsNone(WRITTEN.fullmatch(text), repr(text)[:200])
        with self.assertRaises(NoLetter, msg=repr(text)[:200]):
            read_letter(text)

    def test_words_too_many_and_too_few(self):
        words = TEXT.split(" ")
        for k in range(7):
            self.refused(" ".join(words[:k]))
            self.refused(" ".join(words[:k] + words[k + 1:]))
            self.refused(" ".join(words[:k] + [words[k]] + words[k:]))
        self.refused(TEXT + " -")
        self.refused(TEXT + " " + TEXT)
        self.refused("- " * 100000)

    def test_blanks_and_other_signs(self):
        for text in ("", " ", "\n", TEXT + " ", " " + TEXT, TEXT + "\n", "\n" + TEXT, TEXT + "\t", "x" + TEXT):
            self.refused(text)
        for k, sign in enumerate(TEXT):
            if sign == " ":
                for other in ("  ", "\n", "\t", " \t", "", ",", "\r", "\x0b", "\xa0", "\u2003"):
                    self.refused(TEXT[:k] + other + TEXT[k + 1:])

    def test_numbers(self):
        words = (
            "", "00", "01", "007", "+1", "-1", "-0", "1_0", "_1", "1,", "1e2", "0x1", "a", "\u0661", "\u00b2",
            "\uff11", "None", "True", "1" * 41, "1" + "0" * 40, "9" * 4000, "9" * 4301, "9" * 100000,
            "0" * 40, "0" * 5000, "-")
        for word in words:
            for k in (2, 3, 4):
                self.refused(" ".join(put(tuple(TEXT.split(" ")), k, word)))
            for k in (0, 1, 5, 6):
                self.refused(" ".join(put(tuple(TEXT.split(" ")), k, f"{word}.3")))
                self.refused(" ".join(put(tuple(TEXT.split(" ")), k, f"3.{word}")))

    def test_a_root_of_a_thousand(self):
        self.refused("2.10 2.3 1000 15 4 0.6 -")
        self.refused("2.10 2.3 9999 15 4 0.6 -")
        self.refused("2.10 2.3 " + "9" * 40 + " 15 4 0.6 -")

    def test_dashes_where_none_may_stand(self):
        words = tuple(TEXT.split(" "))
        for k in range(5):
            self.refused(" ".join(put(words, k, "-")))
        for k in (5, 6):
            for word in ("--", "-.-", "-.1", "1.-", ".-", "", "- -", "None", "_"):
                self.refused(" ".join(put(words, k, word)))

    def test_points_too_many_and_too_few(self):
        words = tuple(TEXT.split(" "))
        for k in (0, 1, 5, 6):
            for word in ("1", "12", ".", "1.", ".1", "1..2", "1.2.3", ".1.2", "1.2.", "1,2", "1. 2"):
                self.refused(" ".join(put(words, k, word)))
        for k in (2, 3, 4):
            for word in ("1.2", "1.", ".1", "1.0", "."):
                self.refused(" ".join(put(words, k, word)))

    def test_one_sign_more_less_or_another(self):
        read = 0
        for k in range(len(TEXT) + 1):
            texts = [TEXT[:k], TEXT[k:], TEXT[:k] + TEXT[k + 1:]]
            for sign in " \n\t0129+-_.x~\r\u0661":
                texts += [TEXT[:k] + sign + TEXT[k:], TEXT[:k] + sign + TEXT[k + 1:]]
            for text in texts:
                if WRITTEN.fullmatch(text):
                    read += 1
                    self.assertEqual(show_letter(read_letter(text)), text)
                else:
                    self.refused(text)
        self.assertGreater(read, 50)


if __name__ == "__main__":
    unittest.main()

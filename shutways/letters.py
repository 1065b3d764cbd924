"""Letters: what bridges tell one another, as tuples and as texts."""

from shutways.errors import NoLetter
from shutways.nets import GREATEST_NUMBER
from shutways.wholes import is_numeral, is_whole_between

# Where the parts of a letter stand in it.
NUMBER = 0
STAMP = 1
ROOT = 2
COST = 3
AGE = 4
RESTS = 5
AGREES = 6
PARTS = 7

MOST_FIGURES = 40
# The greatest whole number of forty figures.
GREATEST_PART = 9999999999999999999999999999999999999999


def is_letter(thing):
    if not isinstance(thing, tuple) or len(thing) != PARTS:
        return False
    if not is_pair(thing[NUMBER]) or not is_pair(thing[STAMP]):
        return False
    if not is_whole_between(thing[ROOT], 0, GREATEST_NUMBER):
        return False
    if not is_part(thing[COST]) or not is_part(thing[AGE]):
        return False
    return is_pair_or_none(thing[RESTS]) and is_pair_or_none(thing[AGREES])


def is_part(thing):
    return is_whole_between(thing, 0, GREATEST_PART)


def is_pair(thing):
    return isinstance(thing, tuple) and len(thing) == 2 and is_part(thing[0]) and is_part(thing[1])


def is_pair_or_none(thing):
    return thing is None or is_pair(thing)


def newer(one, other):
    return one[NUMBER] > other[NUMBER]


def show_letter(letter):
    pairs = [show_pair(letter[NUMBER]), show_pair(letter[STAMP])]
    numbers = [str(letter[ROOT]), str(letter[COST]), str(letter[AGE])]
    return " ".join(pairs + numbers + [show_pair(letter[RESTS]), show_pair(letter[AGREES])])


def show_pair(pair):
    if pair is None:
        return "-"
    first, second = pair
    return f"{first}.{second}"


def read_letter(text):
    words = text.split(" ")
    if len(words) != PARTS:
        raise NoLetter("a letter's text has seven words, parted by one blank each")
    pairs = [read_pair(words[NUMBER]), read_pair(words[STAMP])]
    numbers = [read_part(words[ROOT]), read_part(words[COST]), read_part(words[AGE])]
    letter = tuple(pairs + numbers + [read_pair_or_none(words[RESTS]), read_pair_or_none(words[AGREES])])
    if not is_letter(letter):
        raise NoLetter("a letter's root is from 0 to 999")
    return letter


def read_part(word):
    if not is_numeral(word, MOST_FIGURES):
        raise NoLetter("a number of a letter is written by at most forty figures alone")
    return int(word)


def read_pair(word):
    halves = word.split(".")
    if len(halves) != 2:
        raise NoLetter("a stamp or a number is written with one point in it")
    return (read_part(halves[0]), read_part(halves[1]))


def read_pair_or_none(word):
    return None if word == "-" else read_pair(word)

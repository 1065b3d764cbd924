"""Whole numbers, as things that are handed in and as words of a text."""

FIGURES = "0123456789"


def is_whole(thing):
    # Python counts True and False among the ints; here they are no numbers.
    return isinstance(thing, int) and not isinstance(thing, bool)


def is_whole_between(thing, least, greatest):
    return is_whole(thing) and least <= thing <= greatest


def is_numeral(word, most_figures):
    # int alone would let by signs, blanks, "_" and figures of other scripts,
    # and fails by itself on words of thousands of figures.
    if not 1 <= len(word) <= most_figures:
        return False
    if not all([sign in FIGURES for sign in word]):
        return False
    return word == "0" or word[0] != "0"

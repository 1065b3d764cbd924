"""Histories: deeds written by lines and read back, and what came of them."""

from shutways.errors import NoLine
from shutways.letters import AGREES
from shutways.wholes import is_numeral, is_whole_between
from shutways.ways import is_open_way
from shutways.yards import DEEDS, Yard, yard_behind

MOST_FIGURES = 6


def show_deeds(deeds):
    lines = []
    for deed in deeds:
        line = " ".join([str(part) for part in deed])
        lines.append(f"{line}\n")
    return "".join(lines)


def read_deeds(text):
    lines = text.split("\n")
    if lines[-1] != "":
        raise NoLine("the last line has no line feed behind it")
    return [read_line(line) for line in lines[:-1]]


def read_line(line):
    words = line.split(" ")
    if tuple(words[:-1]) not in DEEDS or not is_numeral(words[-1], MOST_FIGURES):
        raise NoLine("no deed is written so")
    return tuple(words[:-1]) + (int(words[-1]),)


def yard_at(net, greatest, deeds, many):
    if not is_whole_between(many, 0, len(deeds)):
        raise NoLine("there are not so many deeds")
    return yard_behind(net, greatest, deeds[:many])


def turns(net, greatest, deeds, place):
    yard = Yard(net, greatest)
    was_open = False
    told = []
    for number, some in enumerate(deeds):
        yard.deed(some)
        if is_open_way(yard, place) != was_open:
            was_open = not was_open
            told.append((number, "open" if was_open else "shut"))
    return told


def why_end(bridge, place):
    end = bridge.end(place)
    if end != "shut":
        return end
    held = bridge.held(place)
    if held is None:
        return "no letter"
    if place != bridge.label()[2]:
        return "not rested on"
    # A held letter that agrees is shut out only by its stamp, on which the
    # label rests no longer.
    return "elder" if held[0][AGREES] == bridge.stamp() else "not agreed"

"""Frames carried over the open ways of one moment."""

from shutways.errors import NoFrame
from shutways.wholes import is_whole
from shutways.ways import open_ways


def carried(yard, bridge):
    if not is_standing(yard, bridge):
        raise NoFrame("no bridge of this number is up")
    ways = open_ways(yard)
    having = [(bridge, None)]
    sent = 0
    while sent < len(having):
        having.extend(sent_on(ways, having[sent]))
        sent += 1
    return having


def is_standing(yard, thing):
    # A truth would find the bridge of its like number, so it is asked first.
    return is_whole(thing) and yard.bridge(thing) is not None


def sent_on(ways, had):
    bridge, came = had
    goals = []
    for place, child, parent in ways:
        if place != came and bridge in (child, parent):
            goals.append((parent if bridge == child else child, place))
    return goals


def part_of(yard, bridge):
    return sorted([member for member, place in carried(yard, bridge)])

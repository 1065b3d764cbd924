"""Nets: tuples (bridges, ties), and what lies around a bridge of one."""

from shutways.errors import NoNet
from shutways.wholes import is_whole, is_whole_between

MOST_BRIDGES = 10
MOST_TIES = 16
GREATEST_NUMBER = 999
GREATEST_COST = 1000


def make_net(bridges, ties):
    if not isinstance(bridges, list) or not isinstance(ties, list):
        raise NoNet("bridges and ties are to be told as two lists")
    if not 1 <= len(bridges) <= MOST_BRIDGES:
        raise NoNet("a net has one to ten bridges")
    if len(ties) > MOST_TIES:
        raise NoNet("a net has at most sixteen ties")
    if not are_bridges(bridges):
        raise NoNet("bridges are unlike whole numbers from 0 to 999")
    if not all([is_tie(thing, bridges) for thing in ties]):
        raise NoNet("a tie is a tuple of two bridges of the net and a cost from 1 to 1000")
    return (tuple(sorted(bridges)), tuple([lesser_end_first(tie) for tie in ties]))


def are_bridges(things):
    if not all([is_whole_between(thing, 0, GREATEST_NUMBER) for thing in things]):
        return False
    return len(set(things)) == len(things)


def is_tie(thing, bridges):
    if not isinstance(thing, tuple) or len(thing) != 3:
        return False
    # A truth or another like of a number would be found among the bridges,
    # so what kind of thing it is has to be asked first.
    if not is_whole(thing[0]) or not is_whole(thing[1]):
        return False
    if thing[0] not in bridges or thing[1] not in bridges:
        return False
    return thing[0] != thing[1] and is_whole_between(thing[2], 1, GREATEST_COST)


def lesser_end_first(tie):
    return (min(tie[0], tie[1]), max(tie[0], tie[1]), tie[2])


def neighbours(net, bridge):
    found = []
    for place, tie in enumerate(net[1]):
        if bridge in tie[:2]:
            found.append((place, far_end(tie, bridge), tie[2]))
    return found


def far_end(tie, bridge):
    return tie[1] if tie[0] == bridge else tie[0]

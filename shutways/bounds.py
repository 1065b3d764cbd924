"""How many quiet rounds it takes till a yard is settled."""

from shutways.quiet import is_settled, quiet_round, rounds_told
from shutways.yards import Yard, twin_behind, yard_behind


def settling(net, greatest, deeds):
    return rounds_till_settled(yard_behind(net, greatest, deeds))


def rounds_till_settled(yard):
    told = rounds_told(yard.net(), yard.greatest())
    for rounds in range(told + 1):
        if is_settled(yard):
            return rounds
        quiet_round(yard)
    return None


def settling_falls(net, greatest):
    yard = Yard(net, greatest)
    for k in range(rounds_told(net, greatest)):
        quiet_round(yard)
    # A twin of the one yard is as good as a new one that had the same rounds.
    of_bridges = [rounds_till_settled(twin_behind(yard, ("fall", "bridge", number))) for number in net[0]]
    of_ties = [rounds_till_settled(twin_behind(yard, ("fall", "tie", place))) for place in range(len(net[1]))]
    return (of_bridges, of_ties)

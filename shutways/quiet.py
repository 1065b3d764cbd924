"""Quiet rounds, in which all comes and nothing falls, and settled yards."""

from shutways.trees import plain_tree, ways_of
from shutways.ways import open_ways


def quiet_round(yard):
    for bridge, label in yard.labels():
        yard.deed(("tick", bridge))
    # What comes puts nothing on the road, so all there is are those of now.
    for letter in yard.road():
        yard.deed(("come", 0))


def is_settled(yard):
    tree = plain_tree(yard.net(), yard.down())
    rows = [(bridge, label[0], label[1], label[2]) for bridge, label in yard.labels()]
    return rows == tree and [way[0] for way in open_ways(yard)] == ways_of(tree)


def rounds_told(net, greatest):
    return greatest + 4 * len(net[0]) + 6

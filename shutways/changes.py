"""What a fall changes in the plain tree, and which bridges it can change at all."""

from shutways.nets import far_end
from shutways.trees import plain_tree


def changed(net, one, other):
    first = rows_by_bridge(net, one)
    second = rows_by_bridge(net, other)
    return [bridge for bridge in first if bridge in second and first[bridge] != second[bridge]]


def rows_by_bridge(net, down):
    rows = {}
    for row in plain_tree(net, down):
        rows[row[0]] = row
    return rows


def falls_paper(net, one, other):
    rows = rows_by_bridge(net, one)
    paper = []
    for bridge in rows:
        bridges, places = way_to_root(net, rows, bridge)
        if bridge not in other[0] and is_broken(bridges, places, other):
            paper.append((bridge, places))
    return paper


def way_to_root(net, rows, bridge):
    bridges = [bridge]
    places = []
    while rows[bridges[-1]][3] is not None:
        place = rows[bridges[-1]][3]
        places.append(place)
        bridges.append(far_end(net[1][place], bridges[-1]))
    return (bridges, places)


def is_broken(bridges, places, down):
    return any([bridge in down[0] for bridge in bridges]) or any([place in down[1] for place in places])

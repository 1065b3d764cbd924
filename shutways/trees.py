"""The plain tree of a net of which some may be down, and a checker of one."""

from shutways.nets import neighbours
from shutways.wholes import is_whole


def bridges_up(net, down):
    return [bridge for bridge in net[0] if bridge not in down[0]]


def ties_up(net, down, bridge):
    return [near for near in neighbours(net, bridge) if near[0] not in down[1] and near[1] not in down[0]]


def plain_tree(net, down):
    rows = {}
    for bridge in bridges_up(net, down):
        # Bridges rise, so the first one of a part that is met is its root.
        if bridge not in rows:
            costs = costs_from(net, down, bridge)
            for member in costs:
                rows[member] = plain_row(net, down, member, bridge, costs)
    return [rows[bridge] for bridge in sorted(rows)]


def costs_from(net, down, root):
    costs = {root: 0}
    waiting = [root]
    while waiting:
        bridge = waiting.pop(0)
        for place, neighbour, cost in ties_up(net, down, bridge):
            along = costs[bridge] + cost
            if neighbour not in costs or along < costs[neighbour]:
                costs[neighbour] = along
                waiting.append(neighbour)
    return costs


def plain_row(net, down, bridge, root, costs):
    if bridge == root:
        return (bridge, root, 0, None)
    near = ties_up(net, down, bridge)
    best = min([(costs[neighbour] + cost, neighbour, place) for place, neighbour, cost in near])
    return (bridge, root, costs[bridge], best[2])


def ways_of(tree):
    return sorted([row[3] for row in tree if row[3] is not None])


def is_plain_tree(net, down, some):
    if not isinstance(some, list) or not all([is_row(thing) for thing in some]):
        return False
    if [row[0] for row in some] != bridges_up(net, down):
        return False
    rows = {}
    for row in some:
        rows[row[0]] = row
    return all([row == least_row(net, down, row[0], rows) for row in some])


def is_row(thing):
    if not isinstance(thing, tuple) or len(thing) != 4:
        return False
    if not all([is_whole(part) for part in thing[:3]]):
        return False
    return thing[3] is None or is_whole(thing[3])


def least_row(net, down, bridge, rows):
    offers = []
    for place, neighbour, cost in ties_up(net, down, bridge):
        offers.append((rows[neighbour][1], rows[neighbour][2] + cost, neighbour, place))
    best = best_offer(bridge, offers)
    if best is None:
        return (bridge, bridge, 0, None)
    return (bridge, best[0], best[1], best[3])


def best_offer(bridge, offers):
    # A bridge goes first of its own number, whatever the cost, and ahead of
    # all greater ones: so a lesser root alone is better than itself.
    better = [offer for offer in offers if offer[0] < bridge]
    return min(better, default=None)

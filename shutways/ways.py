"""Open ways of a yard, and why they make no ring."""

from shutways.nets import far_end
from shutways.wholes import is_whole


def open_ways(yard):
    ways = []
    for place, tie in enumerate(yard.net()[1]):
        ends = yard.ends(place)
        if ends == ("child", "parent"):
            ways.append((place, tie[0], tie[1]))
        elif ends == ("parent", "child"):
            ways.append((place, tie[1], tie[0]))
    return ways


def is_open_way(yard, place):
    return sorted(yard.ends(place)) == ["child", "parent"]


def rank_paper(yard):
    return [(bridge, label[0], label[1]) for bridge, label in yard.labels()]


def is_ranked(net, ways, some):
    if not isinstance(some, list) or not all([is_rank(net, thing) for thing in some]):
        return False
    bridges = [rank[0] for rank in some]
    if bridges != sorted(set(bridges)):
        return False
    children = [child for place, child, parent in ways]
    if len(set(children)) != len(children):
        return False
    ranks = {}
    for bridge, root, cost in some:
        ranks[bridge] = (root, cost)
    return all([is_way_ranked(net, way, ranks) for way in ways])


def is_rank(net, thing):
    if not isinstance(thing, tuple) or len(thing) != 3:
        return False
    return all([is_whole(part) for part in thing]) and thing[0] in net[0]


def is_way_ranked(net, way, ranks):
    place, child, parent = way
    if child not in ranks or parent not in ranks:
        return False
    root, cost = ranks[parent]
    return ranks[child] == (root, cost + net[1][place][2])


def ring_of(net, ways):
    # Ties are laid one by one: the first one whose bridges are joined
    # already closes a ring with the ties that join them.
    laid = []
    for place in ways:
        one, other, cost = net[1][place]
        joining = ties_between(net, laid, other, one)
        if joining is not None:
            return [place] + joining
        laid.append(place)
    return None


def ties_between(net, laid, start, goal):
    rows = {start: []}
    waiting = [start]
    while waiting:
        bridge = waiting.pop(0)
        for place in laid:
            if bridge in net[1][place][:2]:
                far = far_end(net[1][place], bridge)
                if far not in rows:
                    rows[far] = rows[bridge] + [place]
                    waiting.append(far)
    return rows.get(goal)

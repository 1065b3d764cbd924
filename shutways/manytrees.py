"""Several trees of one net, each by an order of its bridges of its own."""

from shutways.errors import NoDeed, NoOrder
from shutways.nets import lesser_end_first
from shutways.quiet import quiet_round
from shutways.wholes import is_whole, is_whole_between
from shutways.ways import open_ways
from shutways.yards import Yard, read_deed

MOST_TREES = 4


class ManyTrees:

    def __init__(self, net, greatest, orders):
        if not isinstance(orders, list) or not 1 <= len(orders) <= MOST_TREES:
            raise NoOrder("one to four orders are to be told as a list")
        if not all([is_order(net, thing) for thing in orders]):
            raise NoOrder("an order is a tuple of the net's bridges, each once")
        self.own_net = net
        self.orders = tuple(orders)
        self.yards = [Yard(renamed(net, order), greatest) for order in orders]

    def deed(self, some):
        if is_road_deed(some):
            self.road_deed(some[0], some[1], some[2])
            return
        words, number = read_deed(some)
        if words[0] in ("come", "lost"):
            raise NoDeed("a letter comes or is lost in one tree")
        if words[-1] != "tie" and number not in self.own_net[0]:
            raise NoDeed("the net has no such bridge")
        # The same is down in all trees, so what one of them can't do is
        # refused by the first one, ahead of its being done in any.
        for order, yard in zip(self.orders, self.yards):
            yard.deed(words + (number if words[-1] == "tie" else order.index(number),))

    def road_deed(self, word, tree, place):
        if not is_whole_between(tree, 0, len(self.yards) - 1):
            raise NoDeed("there is no tree of this number")
        self.yards[tree].deed((word, place))

    def quiet(self):
        for yard in self.yards:
            quiet_round(yard)

    def labels(self, tree):
        order = self.orders[tree]
        rows = []
        for place, label in self.yards[tree].labels():
            rows.append((order[place], order[label[0]], label[1], label[2]))
        return sorted(rows)

    def ways(self, tree):
        return [way[0] for way in open_ways(self.yards[tree])]

    def used(self):
        counts = [0] * len(self.own_net[1])
        for yard in self.yards:
            for place, child, parent in open_ways(yard):
                counts[place] += 1
        return counts


def is_order(net, thing):
    if not isinstance(thing, tuple) or not all([is_whole(part) for part in thing]):
        return False
    return sorted(thing) == list(net[0])


def renamed(net, order):
    ties = [(order.index(one), order.index(other), cost) for one, other, cost in net[1]]
    return (tuple(range(len(order))), tuple([lesser_end_first(tie) for tie in ties]))


def is_road_deed(some):
    if not isinstance(some, tuple) or len(some) != 3:
        return False
    # A thing of another kind may hold itself for a word, so its kind is asked first.
    return isinstance(some[0], str) and some[0] in ("come", "lost")

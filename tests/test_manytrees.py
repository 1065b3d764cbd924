"""Several trees (points 33 and 34)."""

import itertools
import random
import unittest

from drawn import NO_DEEDS, NO_NUMBERS, Liar, drawn_fall_or_back, drawn_net
from model import ModelYard, plainly_told
from shutways.errors import NoDeed, NoOrder
from shutways.manytrees import ManyTrees
from shutways.nets import make_net
from shutways.quiet import rounds_told

NET = make_net([3, 5, 8, 9], [(3, 5, 1), (8, 5, 1), (9, 8, 2), (9, 3, 4)])
ORDERS = [(3, 5, 8, 9), (9, 8, 5, 3), (5, 9, 3, 8)]


def renamed_net(net, order):
    """The net with each bridge called by its place in the order, by point 33's words."""
    names = {bridge: place for place, bridge in enumerate(order)}
    return make_net(list(names.values()), [(names[one], names[other], cost) for one, other, cost in net[1]])


def seen_of_trees(trees, many):
    return [(trees.labels(tree), trees.ways(tree)) for tree in range(many)] + [trees.used()]


class Beside:
    """Several trees, and for each a model's yard of the renamed net beside it."""

    def __init__(self, net, greatest, orders):
        self.net, self.orders = net, orders
        self.trees = ManyTrees(net, greatest, orders)
        self.models = [ModelYard(renamed_net(net, order), greatest) for order in orders]

    def deed(self, some):
        self.trees.deed(some)
        if some[0] in ("come", "lost"):
            self.models[some[1]].deed((some[0], some[2]))
            return
        for order, model in zip(self.orders, self.models):
            if some[-2] in ("tick", "bridge"):
                model.deed(some[:-1] + (order.index(some[-1]),))
            else:
                model.deed(some)

    def quiet(self):
        self.trees.quiet()
        for model in self.models:
            model.quiet_round()

    def labels_told(self, tree):
        order, model = self.orders[tree], self.models[tree]
        rows = []
        for bridge in self.net[0]:
            if order.index(bridge) in model.bridges:
                root, cost, over, rests = model.bridges[order.index(bridge)].label
                rows.append((bridge, order[root], cost, over))
        return rows

    def ways_told(self, tree):
        return [place for place, child, parent in self.models[tree].open_ways()]

    def used_told(self):
        ways = [place for tree in range(len(self.orders)) for place in self.ways_told(tree)]
        return [ways.count(place) for place in range(len(self.net[1]))]

    def is_alike(self):
        many = range(len(self.orders))
        return (
            [self.trees.labels(tree) for tree in many] == [self.labels_told(tree) for tree in many]
            and [self.trees.ways(tree) for tree in many] == [self.ways_told(tree) for tree in many]
            and self.trees.used() == self.used_told())


def drawn_orders(chance, net):
    return [tuple(chance.sample(net[0], len(net[0]))) for tree in range(chance.randint(1, 4))]


class OrdersTest(unittest.TestCase):

    def refused(self, orders, net=NET):
        with self.assertRaises(NoOrder, msg=repr(orders)[:200]):
            ManyTrees(net, 20, orders)

    def test_one_to_four_orders(self):
        for many in range(1, 5):
            trees = ManyTrees(NET, 20, [ORDERS[tree % 3] for tree in range(many)])
            for tree in range(many):
                self.assertEqual([row[0] for row in trees.labels(tree)], [3, 5, 8, 9])
        self.refused([])
        self.refused([ORDERS[0]] * 5)
        self.refused([ORDERS[0]] * 100)

    def test_no_list(self):
        for thing in NO_NUMBERS + (tuple(ORDERS), ORDERS[0], "3589", {ORDERS[0]: True}, 3):
            self.refused(thing)

    def test_no_orders(self):
        wrong = (
            [3, 5, 8, 9], "3589", {3: 0, 5: 1, 8: 2, 9: 3}, (), (3,), (3, 5, 8), (3, 5, 8, 9, 9), (3, 5, 8, 8),
            (3, 3, 8, 9), (3, 5, 8, 10), (3, 5, 8, 4), (3, 5, 8, 9, 10), (3, 5, 8, "9"), (3, 5, 8, None),
            (3, 5, 8, 9.0), (3, 5, 8, [9]), ((3, 5, 8, 9),), (0, 1, 2, 3), (3, 5, 8, -9), (3, 5, 8, 10 ** 50),
            (3, 5, 8, Liar()), (Liar(), Liar(), Liar(), Liar()))
        for thing in NO_NUMBERS + wrong:
            self.refused([thing])
            self.refused([ORDERS[0], thing])
            self.refused([thing, ORDERS[0], ORDERS[1]])

    def test_truths_as_numbers(self):
        net = make_net([0, 1], [(0, 1, 3)])
        for order in ((False, True), (0, True), (False, 1), (1, False), (True, 0), (1.0, 0), (0, "1")):
            self.refused([order], net)
        self.assertEqual(ManyTrees(net, 20, [(1, 0)]).used(), [0])

    def test_one_bridge(self):
        trees = ManyTrees(make_net([7], []), 4, [(7,), (7,)])
        self.assertEqual(seen_of_trees(trees, 2), [([(7, 7, 0, None)], [])] * 2 + [[]])
        trees.deed(("tick", 7))
        trees.deed(("fall", "bridge", 7))
        self.assertEqual(seen_of_trees(trees, 2), [([], [])] * 2 + [[]])

    def test_the_list_of_orders_is_not_kept(self):
        orders = list(ORDERS)
        trees, other = ManyTrees(NET, 20, orders), ManyTrees(NET, 20, ORDERS)
        self.assertEqual(orders, ORDERS)
        orders[0] = (8, 9, 3, 5)
        orders.pop()
        for k in range(30):
            trees.quiet()
            other.quiet()
            self.assertEqual(seen_of_trees(trees, 3), seen_of_trees(other, 3))
        orders.clear()
        trees.deed(("tick", 3))
        self.assertEqual(trees.labels(1)[0][1], 9)


class TreesTest(unittest.TestCase):

    def settled(self, orders=ORDERS):
        trees = ManyTrees(NET, 20, orders)
        for k in range(rounds_told(NET, 20)):
            trees.quiet()
        return trees

    def test_new_trees(self):
        trees = ManyTrees(NET, 20, ORDERS)
        rows = [(3, 3, 0, None), (5, 5, 0, None), (8, 8, 0, None), (9, 9, 0, None)]
        self.assertEqual(seen_of_trees(trees, 3), [(rows, [])] * 3 + [[0, 0, 0, 0]])

    def test_settled_trees(self):
        trees = self.settled()
        self.assertEqual(trees.labels(0), [(3, 3, 0, None), (5, 3, 1, 0), (8, 3, 2, 1), (9, 3, 4, 3)])
        self.assertEqual(trees.labels(1), [(3, 9, 4, 3), (5, 9, 3, 1), (8, 9, 2, 2), (9, 9, 0, None)])
        self.assertEqual(trees.labels(2), [(3, 5, 1, 0), (5, 5, 0, None), (8, 5, 1, 1), (9, 5, 3, 2)])
        self.assertEqual([trees.ways(tree) for tree in range(3)], [[0, 1, 3], [1, 2, 3], [0, 1, 2]])
        self.assertEqual(trees.used(), [2, 3, 2, 2])

    def test_equal_costs_go_by_the_order(self):
        # 4 has two ways of one cost to 1; which is used goes by the places of
        # 2 and 3 in the order, not by the net's numbers.
        net = make_net([1, 2, 3, 4], [(1, 2, 1), (1, 3, 1), (2, 4, 1), (3, 4, 1)])
        trees = ManyTrees(net, 20, [(1, 2, 3, 4), (1, 3, 2, 4)])
        for k in range(rounds_told(net, 20)):
            trees.quiet()
        self.assertEqual([trees.ways(0), trees.ways(1)], [[0, 1, 2], [0, 1, 3]])
        self.assertEqual(trees.used(), [2, 2, 1, 1])
        self.assertEqual(trees.labels(1)[3], (4, 1, 2, 3))

    def test_a_deed_is_done_in_each(self):
        trees = self.settled()
        trees.deed(("fall", "tie", 1))
        self.assertEqual([trees.ways(tree) for tree in range(3)], [[0, 3], [2, 3], [0, 2]])
        self.assertEqual(trees.used(), [2, 0, 2, 2])
        trees.deed(("fall", "bridge", 9))
        self.assertEqual([[row[0] for row in trees.labels(tree)] for tree in range(3)], [[3, 5, 8]] * 3)
        self.assertEqual(trees.used(), [2, 0, 0, 0])

    def test_roots_are_the_first_that_are_up(self):
        trees = self.settled()
        trees.deed(("fall", "bridge", 9))
        trees.deed(("fall", "bridge", 3))
        for k in range(rounds_told(NET, 20)):
            trees.quiet()
        self.assertEqual([{row[1] for row in trees.labels(tree)} for tree in range(3)], [{5}, {8}, {5}])
        trees.deed(("back", "bridge", 9))
        trees.deed(("fall", "tie", 2))
        for k in range(rounds_told(NET, 20)):
            trees.quiet()
        self.assertEqual([row[1] for row in trees.labels(1)], [8, 8, 9])
        self.assertEqual(trees.used(), [0, 3, 0, 0])

    def test_coming_and_losing_by_the_trees_number(self):
        trees = ManyTrees(NET, 20, ORDERS)
        trees.deed(("tick", 9))
        trees.deed(("tick", 3))
        # In the first tree 3 is least, in the second one 9: over the tie 3 each
        # road has a letter of 9, at 1, and one of 3, at 3.
        for tree in range(3):
            for place in (3, 1):
                trees.deed(("come", tree, place))
        trees.deed(("tick", 3))
        trees.deed(("tick", 9))
        self.assertEqual(trees.labels(0)[0::3], [(3, 3, 0, None), (9, 3, 4, 3)])
        self.assertEqual(trees.labels(1)[0::3], [(3, 9, 4, 3), (9, 9, 0, None)])
        self.assertEqual(trees.labels(2)[0::3], [(3, 9, 4, 3), (9, 9, 0, None)])

    def test_losing_in_one_tree_alone(self):
        trees = ManyTrees(NET, 20, ORDERS)
        trees.deed(("tick", 3))
        trees.deed(("lost", 0, 1))
        trees.deed(("lost", 0, 0))
        with self.assertRaises(NoDeed):
            trees.deed(("lost", 0, 0))
        for tree in (1, 2):
            trees.deed(("come", tree, 1))
            trees.deed(("come", tree, 0))
            with self.assertRaises(NoDeed):
                trees.deed(("come", tree, 0))

    def test_what_is_told_tells_nothing(self):
        trees = ManyTrees(NET, 20, ORDERS)
        for deed in (("tick", 3), ("come", 1, 0), ("lost", 0, 0), ("fall", "tie", 0), ("back", "tie", 0)):
            self.assertIsNone(trees.deed(deed))
        self.assertIsNone(trees.quiet())

    def test_lists_told_are_the_askers_own(self):
        trees = self.settled()
        kept = seen_of_trees(trees, 3)
        told = seen_of_trees(trees, 3)
        for ask in (lambda: trees.labels(0), lambda: trees.ways(0), trees.used):
            self.assertIs(type(ask()), list)
            self.assertIsNot(ask(), ask())
            ask().clear()
        self.assertTrue(all(type(row) is tuple for row in trees.labels(1)))
        self.assertEqual(seen_of_trees(trees, 3), kept)
        trees.deed(("fall", "bridge", 3))
        trees.quiet()
        self.assertEqual(told, kept)
        self.assertNotEqual(seen_of_trees(trees, 3), kept)


class RefusedTest(unittest.TestCase):

    def setUp(self):
        self.beside = Beside(NET, 20, ORDERS + [(8, 3, 9, 5)])
        for k in range(40):
            self.beside.quiet()
        for deed in (
                ("tick", 3), ("tick", 5), ("come", 1, 0), ("fall", "bridge", 8), ("fall", "tie", 0), ("lost", 2, 0),
                ("lost", 2, 0), ("lost", 2, 0), ("lost", 2, 0)):
            self.beside.deed(deed)
        self.letters = [len(model.road) for model in self.beside.models]
        self.assertEqual(self.letters, [4, 3, 0, 4])

    def refused(self, some):
        with self.assertRaises(NoDeed, msg=repr(some)[:200]):
            self.beside.trees.deed(some)

    def tearDown(self):
        """Nothing is changed in any tree, also not in what can be seen only later."""
        self.assertTrue(self.beside.is_alike())
        for tree in range(4):
            for place in range(self.letters[tree]):
                self.beside.deed(("come", tree, 0))
            self.refused_now(("come", tree, 0))
        for deed in (("back", "bridge", 8), ("back", "tie", 0)):
            self.beside.deed(deed)
        for k in range(10):
            self.beside.quiet()
            self.assertTrue(self.beside.is_alike())

    def refused_now(self, some):
        with self.assertRaises(NoDeed):
            self.beside.trees.deed(some)

    def test_no_deed_at_all(self):
        for some in NO_DEEDS:
            self.refused(some)

    def test_a_come_without_a_trees_number(self):
        for word in ("come", "lost"):
            for place in range(5):
                self.refused((word, place))

    def test_trees_that_are_not_there(self):
        for word in ("come", "lost"):
            for tree in (-1, -3, -4, -5, 4, 5, 100, 10 ** 50, -10 ** 50):
                self.refused((word, tree, 0))

    def test_letters_that_are_not_there(self):
        for word in ("come", "lost"):
            for tree, place in ((0, 4), (0, -1), (0, -4), (1, 3), (2, 0), (2, -1), (3, 4), (0, 10 ** 50)):
                self.refused((word, tree, place))

    def test_things_in_numbers_places(self):
        for word in ("come", "lost"):
            for thing in NO_NUMBERS:
                self.refused((word, thing, 0))
                self.refused((word, 0, thing))
                self.refused((word, thing, thing))

    def test_other_forms(self):
        for some in (
                ["come", 0, 0], ("come", 0, 0, 0), ("come", (0, 0)), ("Come", 0, 0), ("tick", 0, 3), ("tick", 3, 0),
                ("fall", 0, "bridge", 3), ("fall", "bridge", 0, 3), ("fall", "tie", 0, 1), "come 0 0", ("go", 0, 0),
                (Liar(), 0, 0), ("come", "tie", 0), ("come", "bridge", 3), ("lost", 0), ("come",), (["come"], 0, 0)):
            self.refused(some)

    def test_what_cannot_be_done(self):
        for some in (
                ("tick", 8), ("tick", 4), ("tick", 0), ("tick", 1), ("tick", 2), ("fall", "bridge", 8),
                ("fall", "bridge", 0), ("back", "bridge", 3), ("back", "bridge", 0), ("back", "bridge", 10 ** 50),
                ("fall", "tie", 0), ("fall", "tie", 4), ("back", "tie", 1), ("back", "tie", 2), ("back", "tie", 9)):
            self.refused(some)


class ManyMomentsTest(unittest.TestCase):

    def drawn_deed(self, chance, beside, falls):
        down = beside.models[0].down()[1]
        fallen = [bridge for place, bridge in enumerate(beside.orders[0]) if place not in beside.models[0].bridges]
        standing = [bridge for bridge in beside.net[0] if bridge not in fallen]
        if chance.random() < falls or not standing:
            return drawn_fall_or_back(chance, beside.net, (tuple(sorted(fallen)), down))
        trees = [tree for tree, model in enumerate(beside.models) if model.road]
        if trees and chance.random() < 0.75:
            tree = chance.choice(trees)
            letters = len(beside.models[tree].road)
            word = "lost" if chance.random() < 0.05 else "come"
            return (word, tree, 0 if chance.random() < 0.6 else chance.randrange(letters))
        return ("tick", chance.choice(standing))

    def test_against_a_yard_of_each_renamed_net(self):
        most = 0
        for seed in range(40):
            chance = random.Random(seed)
            net = drawn_net(chance)
            beside = Beside(net, chance.choice((5, 20, 40)), drawn_orders(chance, net))
            for turn in range(150):
                if chance.random() < 0.03:
                    beside.quiet()
                else:
                    beside.deed(self.drawn_deed(chance, beside, (0, 0.01, 0.1)[seed % 3]))
                self.assertTrue(beside.is_alike(), seed)
                most = max([most] + beside.trees.used())
        self.assertGreater(most, 1)

    def test_settled_each_is_the_plain_tree_of_the_renamed_net(self):
        for seed in range(30):
            chance = random.Random(seed)
            net = drawn_net(chance)
            orders = drawn_orders(chance, net)
            beside = Beside(net, 40, orders)
            for turn in range(60):
                beside.deed(self.drawn_deed(chance, beside, 0.1))
            for k in range(rounds_told(net, 40)):
                beside.trees.quiet()
            used = [0] * len(net[1])
            for tree, order in enumerate(orders):
                plain = plainly_told(renamed_net(net, order), beside.models[tree].down())
                rows = sorted((order[row[0]], order[row[1]], row[2], row[3]) for row in plain)
                self.assertEqual(beside.trees.labels(tree), rows)
                ways = sorted(row[3] for row in plain if row[3] is not None)
                self.assertEqual(beside.trees.ways(tree), ways)
                for place in ways:
                    used[place] += 1
            self.assertEqual(beside.trees.used(), used)

    def test_all_orders_of_a_small_net(self):
        net = make_net([10, 20, 30], [(10, 20, 1), (20, 30, 1), (10, 30, 1)])
        for order in itertools.permutations(net[0]):
            beside = Beside(net, 20, [order, (10, 20, 30)])
            for k in range(12):
                beside.quiet()
                self.assertTrue(beside.is_alike())
            self.assertEqual({row[1] for row in beside.trees.labels(0)}, {order[0]})
            self.assertEqual(sum(beside.trees.used()), 4)


if __name__ == "__main__":
    unittest.main()

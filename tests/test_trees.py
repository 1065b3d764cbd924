"""The plain tree, its ways and its checker (points 7 to 9)."""

import copy
import itertools
import random
import unittest

from drawn import NO_NUMBERS, drawn_down, drawn_net
from model import plainly_told
from shutways.nets import make_net
from shutways.trees import is_plain_tree, plain_tree, ways_of

NONE = ((), ())
NET = make_net([5, 2, 9, 30, 4], [(2, 9, 7), (5, 9, 1), (2, 9, 3), (9, 2, 3), (2, 5, 4), (30, 4, 10)])
TREE = [(2, 2, 0, None), (4, 4, 0, None), (5, 2, 4, 4), (9, 2, 3, 2), (30, 4, 10, 5)]


class PlainTreeTest(unittest.TestCase):

    def test_an_ordinary_net(self):
        self.assertEqual(plain_tree(NET, NONE), TREE)

    def test_one_bridge(self):
        self.assertEqual(plain_tree(make_net([7], []), NONE), [(7, 7, 0, None)])
        self.assertEqual(plain_tree(make_net([0], []), NONE), [(0, 0, 0, None)])
        self.assertEqual(plain_tree(make_net([7], []), ((7,), ())), [])

    def test_ten_in_a_row(self):
        net = make_net(list(range(10, 20)), [(k, k + 1, 1000) for k in range(10, 19)])
        self.assertEqual(
            plain_tree(net, NONE),
            [(10, 10, 0, None)] + [(k, 10, 1000 * (k - 10), k - 11) for k in range(11, 20)])

    def test_a_root_in_the_midst(self):
        net = make_net([1, 5, 9], [(5, 1, 3), (9, 1, 2)])
        self.assertEqual(plain_tree(net, NONE), [(1, 1, 0, None), (5, 1, 3, 0), (9, 1, 2, 1)])

    def test_more_ties_may_cost_less(self):
        net = make_net([1, 2, 3, 4], [(1, 4, 10), (1, 2, 3), (2, 3, 3), (3, 4, 3)])
        self.assertEqual(
            plain_tree(net, NONE), [(1, 1, 0, None), (2, 1, 3, 1), (3, 1, 6, 2), (4, 1, 9, 3)])

    def test_the_up_by_the_cost(self):
        # Over 3 it costs less, though 2 is the lesser neighbour at a lesser place.
        net = make_net([1, 2, 3, 4], [(2, 4, 9), (3, 4, 1), (1, 2, 1), (1, 3, 8)])
        self.assertEqual(plain_tree(net, NONE)[3], (4, 1, 9, 1))

    def test_the_up_by_the_neighbour(self):
        # Alike in cost: the lesser neighbour, though its tie's place and its
        # own cost are greater.
        net = make_net([1, 2, 3, 4], [(3, 4, 5), (2, 4, 1), (1, 3, 2), (1, 2, 6)])
        self.assertEqual(plain_tree(net, NONE)[3], (4, 1, 7, 1))

    def test_the_up_by_the_place(self):
        net = make_net([1, 2], [(1, 2, 6), (2, 1, 5), (1, 2, 5), (2, 1, 5)])
        self.assertEqual(plain_tree(net, NONE)[1], (2, 1, 5, 1))
        self.assertEqual(plain_tree(net, ((), (1,)))[1], (2, 1, 5, 2))
        self.assertEqual(plain_tree(net, ((), (1, 2, 3)))[1], (2, 1, 6, 0))

    def test_ties_alike_but_for_the_cost(self):
        net = make_net([1, 2], [(1, 2, 3), (1, 2, 1), (1, 2, 2)])
        self.assertEqual(plain_tree(net, NONE), [(1, 1, 0, None), (2, 1, 1, 1)])

    def test_bridges_down(self):
        self.assertEqual(
            plain_tree(NET, ((2,), ())),
            [(4, 4, 0, None), (5, 5, 0, None), (9, 5, 1, 1), (30, 4, 10, 5)])
        self.assertEqual(plain_tree(NET, ((2, 4, 5, 30), ())), [(9, 9, 0, None)])
        self.assertEqual(plain_tree(NET, ((2, 4, 5, 9, 30), ())), [])

    def test_ties_down(self):
        self.assertEqual(plain_tree(NET, ((), (2,)))[3], (9, 2, 3, 3))
        self.assertEqual(plain_tree(NET, ((), (2, 3)))[3], (9, 2, 5, 1))
        self.assertEqual(
            plain_tree(NET, ((), (0, 1, 2, 3, 4, 5))), [(k, k, 0, None) for k in (2, 4, 5, 9, 30)])

    def test_a_tie_whose_bridge_is_down_told_down_or_not(self):
        wanted = [(2, 2, 0, None), (4, 4, 0, None), (5, 2, 4, 4), (30, 4, 10, 5)]
        self.assertEqual(plain_tree(NET, ((9,), ())), wanted)
        self.assertEqual(plain_tree(NET, ((9,), (1, 3))), wanted)

    def test_many_nets(self):
        chance = random.Random(8)
        parts = 0
        for turn in range(1500):
            net = drawn_net(chance)
            down = drawn_down(chance, net)
            tree = plain_tree(net, down)
            self.assertEqual(tree, plainly_told(net, down), (net, down))
            parts = max(parts, len(set(row[1] for row in tree)))
        self.assertGreater(parts, 5)

    def test_kinds_and_a_new_list_each_time(self):
        tree = plain_tree(NET, NONE)
        self.assertIs(type(tree), list)
        self.assertTrue(all(type(row) is tuple and len(row) == 4 for row in tree))
        self.assertIsNot(tree, plain_tree(NET, NONE))
        tree.clear()
        self.assertEqual(plain_tree(NET, NONE), TREE)


class WaysTest(unittest.TestCase):

    def test_rising_and_without_the_roots(self):
        self.assertEqual(ways_of(TREE), [2, 4, 5])
        self.assertEqual(ways_of([(1, 1, 0, None), (2, 1, 5, 3), (3, 1, 4, 0), (4, 1, 9, 1)]), [0, 1, 3])

    def test_none(self):
        self.assertEqual(ways_of([]), [])
        self.assertEqual(ways_of([(1, 1, 0, None), (2, 2, 0, None)]), [])

    def test_a_new_list_and_the_tree_stays(self):
        tree = list(TREE)
        told = ways_of(tree)
        self.assertIsNot(told, ways_of(tree))
        told.append(99)
        self.assertEqual(ways_of(tree), [2, 4, 5])
        self.assertEqual(tree, TREE)

    def test_of_many_trees(self):
        chance = random.Random(9)
        for turn in range(200):
            net = drawn_net(chance)
            tree = plain_tree(net, drawn_down(chance, net))
            ways = ways_of(tree)
            self.assertEqual(ways, sorted(set(ways)))
            self.assertEqual(len(ways), len(tree) - len(set(row[1] for row in tree)))


class CheckerTest(unittest.TestCase):

    def refused(self, some, net=NET, down=NONE):
        self.assertIs(is_plain_tree(net, down, some), False, repr(some)[:200])

    def test_the_very_tree(self):
        self.assertIs(is_plain_tree(NET, NONE, TREE), True)
        self.assertIs(is_plain_tree(make_net([0], []), NONE, [(0, 0, 0, None)]), True)
        self.assertIs(is_plain_tree(NET, ((2, 4, 5, 9, 30), ()), []), True)

    def test_no_list(self):
        for thing in NO_NUMBERS + (tuple(TREE), dict(enumerate(TREE)), set(TREE), iter(TREE), 5):
            self.refused(thing)

    def test_no_rows(self):
        self.refused([])
        for thing in NO_NUMBERS:
            self.refused([thing])
            self.refused(TREE + [thing])
            self.refused([thing] + TREE)
            self.refused(TREE[:-1] + [thing])
        ring = []
        ring.append(ring)
        self.refused(ring)

    def test_rows_left_out_told_twice_and_exchanged(self):
        for k in range(len(TREE)):
            self.refused(TREE[:k] + TREE[k + 1:])
            self.refused(TREE[:k] + [TREE[k]] + TREE[k:])
            self.refused(TREE + [TREE[k]])
        for one, other in itertools.combinations(range(len(TREE)), 2):
            rows = list(TREE)
            rows[one], rows[other] = rows[other], rows[one]
            self.refused(rows)
        self.refused(TREE + [(31, 31, 0, None)])
        self.refused([(0, 0, 0, None)] + TREE)

    def test_rows_of_bridges_that_are_down(self):
        down = ((2,), ())
        self.refused(TREE, down=down)
        self.refused([(2, 2, 0, None)] + plain_tree(NET, down), down=down)
        self.refused(plain_tree(NET, down))

    def test_lists_in_a_tuples_place_and_other_lengths(self):
        for k, row in enumerate(TREE):
            for other in (list(row), row[:3], row + (None,), row + (0,), (), (row,), dict.fromkeys(row), row[1:]):
                self.refused(TREE[:k] + [other] + TREE[k + 1:])

    def test_other_things_as_numbers(self):
        for k, row in enumerate(TREE):
            for part in range(4):
                for thing in NO_NUMBERS:
                    if not (part == 3 and thing is None and row[3] is None):
                        changed = row[:part] + (thing,) + row[part + 1:]
                        self.refused(TREE[:k] + [changed] + TREE[k + 1:])

    def test_truths_that_are_like_the_right_numbers(self):
        net = make_net([0, 1], [(0, 1, 1), (0, 1, 1)])
        tree = [(0, 0, 0, None), (1, 0, 1, 0)]
        self.assertIs(is_plain_tree(net, NONE, tree), True)
        for k, part in itertools.product(range(2), range(4)):
            if tree[k][part] is not None:
                for like in (bool(tree[k][part]), float(tree[k][part])):
                    rows = list(tree)
                    rows[k] = rows[k][:part] + (like,) + rows[k][part + 1:]
                    self.refused(rows, net)

    def test_another_number_anywhere(self):
        for k, row in enumerate(TREE):
            for part in range(4):
                for number in (-10 ** 30, -1, 0, 1, 2, 3, 4, 5, 6, 7, 9, 30, 999, 10 ** 30, None):
                    if number != row[part]:
                        changed = row[:part] + (number,) + row[part + 1:]
                        self.refused(TREE[:k] + [changed] + TREE[k + 1:])

    def test_costs_or_roots_all_shifted(self):
        for shift in (-7, -3, -1, 1, 2, 1000):
            self.refused([(a, b, c + shift, d) for a, b, c, d in TREE])
            self.refused([(a, b + shift, c, d) for a, b, c, d in TREE])
            net = make_net([1, 2, 3], [(1, 2, 3), (2, 3, 3), (1, 3, 3)])
            tree = plain_tree(net, NONE)
            self.refused([(a, b, c + shift, d) for a, b, c, d in tree], net)
            self.refused([(a, b + shift, c, d) for a, b, c, d in tree], net)

    def test_a_root_that_rests_on_another_one_with_less_than_nought(self):
        # Itself goes first of its own number, whatever a neighbour tells.
        net = make_net([1, 2], [(1, 2, 1)])
        self.refused([(1, 1, -4, 0), (2, 1, -5, 0)], net)
        self.refused([(1, 1, -4, None), (2, 1, -3, 0)], net)
        self.refused([(1, 1, 0, 0), (2, 1, -1, 0)], net)
        self.refused([(1, 1, 0, None), (2, 1, -1, 0)], net)

    def test_two_that_rest_on_each_other(self):
        net = make_net([3, 4], [(3, 4, 1)])
        for root in (0, 1, 2, 3):
            for cost in range(-3, 4):
                self.refused([(3, root, cost + 1, 0), (4, root, cost, 0)], net)
                self.refused([(3, root, cost, 0), (4, root, cost + 1, 0)], net)
                self.refused([(3, root, cost, 0), (4, root, cost, 0)], net)
        row = make_net([3, 4, 5], [(3, 4, 1), (4, 5, 1), (3, 5, 1)])
        self.refused([(3, 1, 2, 0), (4, 1, 3, 1), (5, 1, 1, 2)], row)

    def test_a_part_that_takes_another_parts_root(self):
        rows = [(2, 2, 0, None), (4, 2, 1, 5), (5, 2, 4, 4), (9, 2, 3, 2), (30, 2, 10, 5)]
        self.refused(rows)

    def test_ties_and_bridges_that_are_down(self):
        self.refused(TREE, down=((), (2,)))
        self.refused(TREE, down=((), (4,)))
        self.refused(TREE, down=((), (5,)))
        self.assertIs(is_plain_tree(NET, ((), (0, 1, 3)), TREE), True)

    def test_all_lists_of_small_numbers(self):
        for ties in ([], [(1, 2, 1)], [(1, 2, 2), (1, 2, 1)], [(1, 2, 1), (2, 1, 1)]):
            net = make_net([1, 2], ties)
            parts = list(itertools.product(range(-1, 4), range(-2, 5), (None, 0, 1, 2)))
            wanted = plainly_told(net, NONE)
            for one, other in itertools.product(parts, repeat=2):
                rows = [(1,) + one, (2,) + other]
                self.assertIs(is_plain_tree(net, NONE, rows), rows == wanted)

    def test_all_lists_of_small_numbers_of_three(self):
        net = make_net([0, 1, 2], [(1, 2, 1), (0, 2, 2), (0, 1, 1)])
        parts = list(itertools.product(range(-1, 2), range(0, 4), (None, 0, 1, 2)))
        wanted = plainly_told(net, NONE)
        found = []
        for one, other, third in itertools.product(parts, repeat=3):
            rows = [(0,) + one, (1,) + other, (2,) + third]
            if is_plain_tree(net, NONE, rows):
                found.append(rows)
        self.assertEqual(found, [wanted])

    def test_of_many_nets(self):
        chance = random.Random(91)
        for turn in range(600):
            net = drawn_net(chance)
            down = drawn_down(chance, net)
            tree = plainly_told(net, down)
            self.assertIs(is_plain_tree(net, down, tree), True)
            if tree:
                k, part = chance.randrange(len(tree)), chance.randrange(4)
                number = chance.choice([None] + list(range(-2, 20)))
                changed = tree[k][:part] + (number,) + tree[k][part + 1:]
                rows = tree[:k] + [changed] + tree[k + 1:]
                self.assertIs(is_plain_tree(net, down, rows), rows == tree)
            self.assertIs(is_plain_tree(net, down, tree[1:]), tree == [])

    def test_the_list_handed_in_stays(self):
        for rows in (list(TREE), list(reversed(TREE)), TREE[:2] + [[1, 2, 3, 4]], [(1, 2, [3], {})]):
            before = copy.deepcopy(rows)
            is_plain_tree(NET, NONE, rows)
            self.assertEqual(rows, before)


if __name__ == "__main__":
    unittest.main()

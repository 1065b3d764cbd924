"""What a fall changes (points 36 and 37)."""

import random
import unittest

from drawn import drawn_down, drawn_net
from model import plainly_told
from shutways.changes import changed, falls_paper
from shutways.nets import make_net

UP = ((), ())
# A ring 1 - 2 - 3 - 4 - 1, and a bridge 5 below 2.
RING = make_net([1, 2, 3, 4, 5], [(1, 2, 1), (2, 3, 1), (3, 4, 1), (4, 1, 1), (2, 5, 1)])


def plainly_changed(net, one, other):
    first = {row[0]: row for row in plainly_told(net, one)}
    second = {row[0]: row for row in plainly_told(net, other)}
    return [bridge for bridge in net[0] if bridge in first and bridge in second and first[bridge] != second[bridge]]


def plain_paper(net, one, other):
    """Point 37's words, by a way that is followed once for each bridge."""
    ups = {row[0]: row[3] for row in plainly_told(net, one)}
    paper = []
    for bridge in sorted(ups):
        here, places, broken = bridge, [], False
        while True:
            broken = broken or here in other[0] or ups[here] in other[1]
            if ups[here] is None:
                break
            places.append(ups[here])
            here = net[1][ups[here]][0] + net[1][ups[here]][1] - here
        if broken and bridge not in other[0]:
            paper.append((bridge, places))
    return paper


def drawn_more(chance, net, down):
    """A tuple of what is down that has all of this one."""
    more = drawn_down(chance, net)
    return tuple(tuple(sorted(set(down[k]) | set(more[k]))) for k in range(2))


class ChangedTest(unittest.TestCase):

    def test_nothing(self):
        self.assertEqual(changed(RING, UP, UP), [])
        self.assertEqual(changed(make_net([7], []), UP, UP), [])
        self.assertEqual(changed(RING, UP, ((), (2,))), [])
        self.assertEqual(changed(RING, UP, ((5,), ())), [])

    def test_an_up_alone(self):
        # 3 has two ways of one cost.
        self.assertEqual(changed(RING, UP, ((), (1,))), [3])

    def test_a_cost(self):
        self.assertEqual(changed(RING, UP, ((), (0,))), [2, 3, 5])
        self.assertEqual(changed(RING, UP, ((), (3,))), [4])

    def test_a_cost_alone(self):
        net = make_net([1, 2, 3], [(1, 2, 1), (1, 2, 5), (2, 3, 1)])
        self.assertEqual(changed(net, UP, ((), (0,))), [2, 3])

    def test_a_root(self):
        self.assertEqual(changed(RING, UP, ((1,), ())), [2, 3, 4, 5])
        self.assertEqual(changed(RING, UP, ((), (0, 1))), [2, 3, 5])
        net = make_net([1, 2, 3], [(1, 2, 1), (2, 3, 1)])
        self.assertEqual(changed(net, UP, ((), (1,))), [3])

    def test_a_root_alone(self):
        # 9 keeps cost 2 and its up over 5, whose root is 1 or 2.
        net = make_net([1, 2, 5, 9], [(5, 9, 1), (1, 5, 1), (2, 5, 1)])
        self.assertEqual(changed(net, UP, ((1,), ())), [2, 5, 9])
        self.assertEqual([row[2:] for row in plainly_told(net, UP)][3], [row[2:] for row in plainly_told(net, ((1,), ()))][2])

    def test_only_those_that_are_up_in_both(self):
        self.assertEqual(changed(RING, ((1,), ()), ((2,), ())), [3, 4, 5])
        self.assertEqual(changed(RING, ((2,), ()), ((1,), ())), [3, 4, 5])
        self.assertEqual(changed(RING, ((1, 2, 3), ()), ((4, 5), ())), [])

    def test_neither_need_be_more(self):
        self.assertEqual(changed(RING, ((), (1,)), UP), [3])
        self.assertEqual(changed(RING, ((), (0,)), ((), (3,))), [2, 3, 4, 5])

    def test_drawn(self):
        sizes = set()
        for seed in range(800):
            chance = random.Random(seed)
            net = drawn_net(chance)
            one, other = drawn_down(chance, net), drawn_down(chance, net)
            told = changed(net, one, other)
            self.assertEqual(told, plainly_changed(net, one, other))
            self.assertEqual(told, changed(net, other, one))
            sizes.add(len(told))
        self.assertGreater(len(sizes), 6)

    def test_lists_told_are_the_askers_own(self):
        told = changed(RING, UP, ((1,), ()))
        self.assertIs(type(told), list)
        self.assertIsNot(told, changed(RING, UP, ((1,), ())))
        told.clear()
        self.assertEqual(changed(RING, UP, ((1,), ())), [2, 3, 4, 5])


class FallsPaperTest(unittest.TestCase):

    def test_nothing_fallen(self):
        self.assertEqual(falls_paper(RING, UP, UP), [])
        self.assertEqual(falls_paper(RING, ((1,), (2,)), ((1,), (2,))), [])

    def test_no_way_is_broken(self):
        self.assertEqual(falls_paper(RING, UP, ((5,), (2,))), [])

    def test_a_tie(self):
        self.assertEqual(falls_paper(RING, UP, ((), (0,))), [(2, [0]), (3, [1, 0]), (5, [4, 0])])
        self.assertEqual(falls_paper(RING, UP, ((), (1,))), [(3, [1, 0])])
        self.assertEqual(falls_paper(RING, UP, ((), (0, 4))), [(2, [0]), (3, [1, 0]), (5, [4, 0])])

    def test_a_bridge(self):
        self.assertEqual(falls_paper(RING, UP, ((2,), ())), [(3, [1, 0]), (5, [4, 0])])
        self.assertEqual(falls_paper(RING, UP, ((1,), ())), [(2, [0]), (3, [1, 0]), (4, [3]), (5, [4, 0])])

    def test_from_the_bridge_on(self):
        net = make_net([1, 2, 3, 4], [(3, 4, 1), (1, 2, 1), (2, 3, 1)])
        self.assertEqual(falls_paper(net, UP, ((), (1,))), [(2, [1]), (3, [2, 1]), (4, [0, 2, 1])])

    def test_by_the_first_trees_ups(self):
        # 3 goes over 4 when the tie to 2 is down already.
        self.assertEqual(falls_paper(RING, ((), (1,)), ((), (1, 2))), [(3, [2, 3])])
        self.assertEqual(falls_paper(RING, ((), (1,)), ((), (0, 1))), [(2, [0]), (5, [4, 0])])

    def test_a_bridge_of_it_that_is_not_changed(self):
        # 2 comes to 1 by another tie of the same cost, so that 3 has the label that it had.
        net = make_net([1, 2, 3], [(1, 2, 1), (1, 2, 1), (2, 3, 1)])
        self.assertEqual(falls_paper(net, UP, ((), (0,))), [(2, [0]), (3, [2, 0])])
        self.assertEqual(changed(net, UP, ((), (0,))), [2])

    def test_drawn(self):
        longest, more = 0, 0
        for seed in range(800):
            chance = random.Random(seed)
            net = drawn_net(chance)
            one = drawn_down(chance, net)
            other = drawn_more(chance, net, one)
            told = falls_paper(net, one, other)
            self.assertEqual(told, plain_paper(net, one, other))
            bridges = [bridge for bridge, places in told]
            self.assertEqual(bridges, sorted(set(bridges)))
            self.assertEqual(set(changed(net, one, other)) - set(bridges), set())
            more += len(bridges) > len(changed(net, one, other))
            longest = max([longest] + [len(places) for bridge, places in told])
            first = {row[0]: row[1:3] for row in plainly_told(net, one)}
            for row in plainly_told(net, other):
                self.assertGreaterEqual(row[1:3], first[row[0]])
        self.assertGreater(longest, 3)
        self.assertGreater(more, 0)

    def test_lists_told_are_the_askers_own(self):
        net = make_net([1, 2, 3], [(1, 2, 1), (2, 3, 1)])
        fallen = ((), (0,))
        told = falls_paper(net, UP, fallen)
        self.assertIs(type(told), list)
        self.assertTrue(all(type(one) is tuple and type(one[1]) is list for one in told))
        self.assertEqual(told, [(2, [0]), (3, [1, 0])])
        again = falls_paper(net, UP, fallen)
        self.assertIsNot(told, again)
        for one, other in zip(told, again):
            self.assertIsNot(one[1], other[1])
        told[0][1].append(9)
        told[1][1].clear()
        told.clear()
        self.assertEqual(falls_paper(net, UP, fallen), [(2, [0]), (3, [1, 0])])
        self.assertEqual(again, [(2, [0]), (3, [1, 0])])


if __name__ == "__main__":
    unittest.main()

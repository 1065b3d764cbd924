"""Nets as they are made (points 2, 4 and 5), and what lies around a bridge."""

import copy
import unittest

from shutways.errors import NoNet
from shutways.nets import make_net, neighbours

TEN = [900, 7, 0, 31, 999, 4, 12, 11, 500, 8]
SIXTEEN = [(0, 4, cost) for cost in range(1, 9)] + [(999, 900, cost) for cost in range(993, 1001)]

# What is no whole number, whatever bounds it were to keep.
NO_NUMBERS = (
    True, False, None, "", "1", "one", 1.0, float("nan"), float("inf"), 1j, b"1",
    [], [1], (), (1,), {}, {1: 1}, set(), {1}, object(), int, range(2))


class MadeTest(unittest.TestCase):

    def test_bridges_are_told_rising(self):
        self.assertEqual(make_net([5, 3, 40, 0], []), ((0, 3, 5, 40), ()))
        self.assertEqual(make_net([0, 3, 5, 40], []), ((0, 3, 5, 40), ()))
        self.assertEqual(make_net([100, 20, 3], []), ((3, 20, 100), ()))

    def test_ties_keep_their_order_and_places(self):
        net = make_net([1, 2, 3], [(2, 3, 9), (1, 3, 4), (1, 2, 7), (1, 3, 2)])
        self.assertEqual(net, ((1, 2, 3), ((2, 3, 9), (1, 3, 4), (1, 2, 7), (1, 3, 2))))

    def test_lesser_end_is_told_first(self):
        net = make_net([10, 9, 2], [(10, 9, 1), (2, 10, 50), (9, 2, 3)])
        self.assertEqual(net[1], ((9, 10, 1), (2, 10, 50), (2, 9, 3)))

    def test_like_ties_stay(self):
        ties = [(1, 2, 5), (2, 1, 6), (1, 2, 5), (2, 1, 5)]
        self.assertEqual(make_net([1, 2], ties)[1], ((1, 2, 5), (1, 2, 6), (1, 2, 5), (1, 2, 5)))

    def test_one_bridge_and_no_tie(self):
        self.assertEqual(make_net([0], []), ((0,), ()))
        self.assertEqual(make_net([999], []), ((999,), ()))

    def test_ten_bridges_and_sixteen_ties(self):
        net = make_net(TEN, SIXTEEN)
        self.assertEqual(net[0], (0, 4, 7, 8, 11, 12, 31, 500, 900, 999))
        self.assertEqual(len(net[1]), 16)
        self.assertEqual(net[1][0], (0, 4, 1))
        self.assertEqual(net[1][15], (900, 999, 1000))

    def test_bounds_of_numbers_and_costs(self):
        net = make_net([999, 0], [(0, 999, 1), (999, 0, 1000)])
        self.assertEqual(net, ((0, 999), ((0, 999, 1), (0, 999, 1000))))

    def test_kinds(self):
        net = make_net([2, 1], [(2, 1, 3)])
        self.assertIs(type(net), tuple)
        self.assertEqual(len(net), 2)
        self.assertIs(type(net[0]), tuple)
        self.assertIs(type(net[1]), tuple)
        self.assertIs(type(net[1][0]), tuple)

    def test_a_net_needs_not_hang_together(self):
        self.assertEqual(make_net([1, 2, 3, 4], [(4, 3, 1)]), ((1, 2, 3, 4), ((3, 4, 1),)))


class RefusedTest(unittest.TestCase):

    def refused(self, bridges, ties):
        with self.assertRaises(NoNet, msg=repr((bridges, ties))[:200]):
            make_net(bridges, ties)

    def test_no_list_of_bridges(self):
        for thing in NO_NUMBERS + ((1, 2), {1: 2, 2: 1}, {1, 2}, range(1, 3), 1, "12", iter([1, 2])):
            if not isinstance(thing, list):
                self.refused(thing, [])
                self.refused(thing, [(1, 2, 3)])

    def test_no_list_of_ties(self):
        for thing in NO_NUMBERS + (((1, 2, 3),), (1, 2, 3), {(1, 2, 3): 1}, iter([(1, 2, 3)]), 3, "tie"):
            if not isinstance(thing, list):
                self.refused([1, 2], thing)

    def test_no_list_at_all(self):
        self.refused(None, None)
        self.refused((1, 2), ((1, 2, 3),))

    def test_no_bridge_at_all(self):
        self.refused([], [])
        self.refused([], [(1, 2, 3)])

    def test_eleven_bridges(self):
        self.refused(TEN + [1], [])
        self.refused(list(range(11)), [(0, 1, 1)])
        self.refused(list(range(1000)), [])

    def test_seventeen_ties(self):
        self.refused(TEN, SIXTEEN + [(0, 4, 9)])
        self.refused([1, 2], [(1, 2, 1)] * 17)
        self.refused([1, 2], [(1, 2, 1)] * 1000)

    def test_a_bridge_twice(self):
        self.refused([1, 1], [])
        self.refused([0, 1, 2, 0], [])
        self.refused([5, 4, 5], [(4, 5, 1)])

    def test_numbers_out_of_bounds(self):
        for number in (-1, -999, 1000, 1001, 10 ** 50, -10 ** 50):
            self.refused([number], [])
            self.refused([1, number], [])
            self.refused([1, number], [(1, number, 5)])
            self.refused([1, 2], [(1, number, 5)])
            self.refused([1, 2], [(number, 2, 5)])

    def test_costs_out_of_bounds(self):
        for cost in (0, -1, -1000, 1001, 10 ** 50):
            self.refused([1, 2], [(1, 2, cost)])
            self.refused([1, 2], [(1, 2, 5), (2, 1, cost)])

    def test_other_things_as_bridges(self):
        for thing in NO_NUMBERS:
            self.refused([thing], [])
            self.refused([2, thing], [])
            self.refused([thing, 2, 3], [(2, 3, 1)])

    def test_other_things_in_ties(self):
        for thing in NO_NUMBERS:
            # Both 0 and 1 are bridges, so that truths would find their likes.
            self.refused([0, 1, 2], [(thing, 2, 5)])
            self.refused([0, 1, 2], [(2, thing, 5)])
            self.refused([0, 1, 2], [(1, 2, thing)])
            self.refused([0, 1, 2], [(1, 2, 5), (thing, thing, thing)])

    def test_other_things_as_ties(self):
        for thing in NO_NUMBERS + (1, "123", "tie", [1, 2, 3], {1: 0, 2: 0, 3: 0}, {1, 2, 3}, range(1, 4)):
            self.refused([1, 2, 3], [thing])
            self.refused([1, 2, 3], [(1, 2, 3), thing])
            self.refused([1, 2, 3], [thing, (1, 2, 3)])

    def test_ties_of_other_lengths(self):
        for tie in ((), (1,), (1, 2), (1, 2, 3, 3), (1, 2, 3, None), (1, 2, 3, 1, 2, 3), ((1, 2, 3),)):
            self.refused([1, 2, 3], [tie])

    def test_a_tie_of_one_bridge_with_itself(self):
        self.refused([1, 2], [(1, 1, 5)])
        self.refused([1], [(1, 1, 5)])
        self.refused([0], [(0, 0, 1)])

    def test_a_tie_with_a_bridge_that_is_not_the_nets(self):
        self.refused([1, 2], [(1, 3, 5)])
        self.refused([1, 2], [(3, 1, 5)])
        self.refused([1, 2], [(3, 4, 5)])
        self.refused([1], [(1, 2, 5)])

    def test_lists_that_hold_themselves(self):
        ring = []
        ring.append(ring)
        self.refused(ring, [])
        self.refused([1, 2], ring)
        self.refused(ring, ring)


class NothingKeptTest(unittest.TestCase):

    def test_lists_handed_in_stay_as_they_were(self):
        bridges = [3, 1, 2]
        ties = [(3, 1, 5), (1, 2, 4), (2, 1, 4)]
        make_net(bridges, ties)
        self.assertEqual(bridges, [3, 1, 2])
        self.assertEqual(ties, [(3, 1, 5), (1, 2, 4), (2, 1, 4)])

    def test_lists_refused_stay_as_they_were(self):
        for bridges, ties in (
                ([3, 1, 1], [(3, 1, 5)]), ([3, 1], [(3, 1, 5), (3, 3, 1)]), ([3, 1], [[3, 1, 5]])):
            before = copy.deepcopy((bridges, ties))
            with self.assertRaises(NoNet):
                make_net(bridges, ties)
            self.assertEqual((bridges, ties), before)

    def test_what_becomes_of_the_lists_changes_no_net(self):
        bridges = [3, 1, 2]
        ties = [(3, 1, 5), (1, 2, 4)]
        net = make_net(bridges, ties)
        bridges.append(9)
        bridges[0] = 77
        ties.pop()
        ties[0] = (1, 2, 1)
        self.assertEqual(net, ((1, 2, 3), ((1, 3, 5), (1, 2, 4))))
        bridges.clear()
        ties.clear()
        self.assertEqual(net, ((1, 2, 3), ((1, 3, 5), (1, 2, 4))))
        self.assertEqual(neighbours(net, 1), [(0, 3, 5), (1, 2, 4)])

    def test_the_same_lists_make_the_same_net_again(self):
        self.assertEqual(make_net(TEN, SIXTEEN), make_net(TEN, SIXTEEN))


class NeighboursTest(unittest.TestCase):

    def setUp(self):
        self.net = make_net([5, 2, 9, 30], [(9, 2, 7), (5, 9, 1), (2, 9, 3), (9, 2, 7), (2, 5, 4)])

    def test_by_places_of_either_end(self):
        self.assertEqual(neighbours(self.net, 2), [(0, 9, 7), (2, 9, 3), (3, 9, 7), (4, 5, 4)])
        self.assertEqual(neighbours(self.net, 9), [(0, 2, 7), (1, 5, 1), (2, 2, 3), (3, 2, 7)])
        self.assertEqual(neighbours(self.net, 5), [(1, 9, 1), (4, 2, 4)])

    def test_a_bridge_without_ties(self):
        self.assertEqual(neighbours(self.net, 30), [])
        self.assertEqual(neighbours(make_net([0], []), 0), [])

    def test_a_cost_is_no_end(self):
        net = make_net([1, 2, 3], [(1, 2, 3)])
        self.assertEqual(neighbours(net, 3), [])

    def test_a_bridge_of_number_nought(self):
        net = make_net([0, 999], [(999, 0, 1000)])
        self.assertEqual(neighbours(net, 0), [(0, 999, 1000)])
        self.assertEqual(neighbours(net, 999), [(0, 0, 1000)])

    def test_kinds(self):
        told = neighbours(self.net, 5)
        self.assertIs(type(told), list)
        self.assertTrue(all(type(one) is tuple for one in told))

    def test_a_new_list_each_time(self):
        first = neighbours(self.net, 5)
        second = neighbours(self.net, 5)
        self.assertIsNot(first, second)
        first.append("more")
        first[0] = None
        self.assertEqual(second, [(1, 9, 1), (4, 2, 4)])
        self.assertEqual(neighbours(self.net, 5), [(1, 9, 1), (4, 2, 4)])
        none = neighbours(self.net, 30)
        none.append("more")
        self.assertEqual(neighbours(self.net, 30), [])
        self.assertEqual(self.net[1], ((2, 9, 7), (5, 9, 1), (2, 9, 3), (2, 9, 7), (2, 5, 4)))


if __name__ == "__main__":
    unittest.main()

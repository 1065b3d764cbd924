"""Frames at a moment, and parts (points 25 and 26)."""

import random
import unittest

from drawn import NO_NUMBERS, drawn_net, drawn_yard_deeds
from model import plainly_told, seen_of_yard
from shutways.errors import NoFrame
from shutways.frames import carried, part_of
from shutways.nets import make_net
from shutways.quiet import is_settled, quiet_round, rounds_told
from shutways.ways import open_ways
from shutways.yards import Yard

# A tree 0 - (1, 2), 1 - (5, 6), 2 - (3, 4), places not in the bridges' order,
# and a tie 3 - 6 that no way needs.
NET = make_net(
    [0, 1, 2, 3, 4, 5, 6],
    [(2, 4, 1), (0, 2, 1), (1, 6, 1), (0, 1, 1), (3, 6, 9), (2, 3, 1), (1, 5, 1)])


def settled_yard(net=NET, deeds=(), greatest=40):
    yard = Yard(net, greatest)
    for deed in deeds:
        yard.deed(deed)
    for k in range(rounds_told(net, greatest)):
        quiet_round(yard)
    return yard


def plainly_carried(ways, bridge):
    """Point 25's words, by a line of frames that wait to be sent on."""
    told = [(bridge, None)]
    line = [(bridge, None)]
    while line:
        here, came = line.pop(0)
        for place, child, parent in sorted(ways):
            if here in (child, parent) and place != came:
                there = child + parent - here
                told.append((there, place))
                line.append((there, place))
    return told


class CarriedTest(unittest.TestCase):

    def test_in_the_order_in_which_they_come_to_have_it(self):
        yard = settled_yard()
        self.assertEqual([way[0] for way in open_ways(yard)], [0, 1, 2, 3, 5, 6])
        self.assertEqual(
            carried(yard, 0), [(0, None), (2, 1), (1, 3), (4, 0), (3, 5), (6, 2), (5, 6)])
        self.assertEqual(
            carried(yard, 6), [(6, None), (1, 2), (0, 3), (5, 6), (2, 1), (4, 0), (3, 5)])
        self.assertEqual(
            carried(yard, 2), [(2, None), (4, 0), (0, 1), (3, 5), (1, 3), (6, 2), (5, 6)])

    def test_without_open_ways(self):
        yard = Yard(NET, 40)
        for number in range(7):
            self.assertEqual(carried(yard, number), [(number, None)])
        self.assertEqual(carried(Yard(make_net([9], []), 4), 9), [(9, None)])

    def test_over_the_ways_of_the_moment(self):
        yard = settled_yard()
        yard.deed(("fall", "tie", 1))
        self.assertEqual(carried(yard, 0), [(0, None), (1, 3), (6, 2), (5, 6)])
        self.assertEqual(carried(yard, 3), [(3, None), (2, 5), (4, 0)])
        yard.deed(("fall", "bridge", 1))
        self.assertEqual(carried(yard, 0), [(0, None)])
        self.assertEqual(carried(yard, 6), [(6, None)])

    def test_not_over_a_way_of_which_one_end_is_open(self):
        yard = Yard(make_net([1, 2], [(1, 2, 5)]), 20)
        for deed in (("tick", 1), ("come", 0), ("tick", 2), ("come", 0)):
            yard.deed(deed)
        self.assertEqual(yard.ends(0), ("parent", "shut"))
        self.assertEqual(carried(yard, 1), [(1, None)])
        yard.deed(("tick", 1))
        yard.deed(("come", 0))
        self.assertEqual(carried(yard, 1), [(1, None), (2, 0)])
        self.assertEqual(carried(yard, 2), [(2, None), (1, 0)])

    def test_of_no_bridge_that_is_up(self):
        yard = settled_yard()
        yard.deed(("fall", "bridge", 4))
        for thing in NO_NUMBERS + (4, 7, 8, 999, -1, 10 ** 50, "0", [0], (0,)):
            for ask in (carried, part_of):
                with self.assertRaises(NoFrame, msg=repr(thing)):
                    ask(yard, thing)
        yard.deed(("back", "bridge", 4))
        self.assertEqual(carried(yard, 4), [(4, None)])

    def test_a_new_list_each_time_and_nothing_of_the_yard_changes(self):
        yard = settled_yard()
        seen = seen_of_yard(yard)
        told = carried(yard, 0)
        self.assertIs(type(told), list)
        self.assertTrue(all(type(one) is tuple for one in told))
        self.assertIsNot(told, carried(yard, 0))
        told.clear()
        self.assertEqual(len(carried(yard, 0)), 7)
        part = part_of(yard, 0)
        self.assertIsNot(part, part_of(yard, 0))
        part.clear()
        self.assertEqual(len(part_of(yard, 0)), 7)
        self.assertEqual(seen_of_yard(yard), seen)

    def test_at_many_moments(self):
        longest = 0
        for seed in range(60):
            chance = random.Random(seed)
            yard = Yard(drawn_net(chance), 40)
            for deed in drawn_yard_deeds(chance, yard, 250, (0, 0.01, 0.1)[seed % 3]):
                ways = open_ways(yard)
                for number in yard.net()[0]:
                    if yard.bridge(number) is None:
                        with self.assertRaises(NoFrame):
                            carried(yard, number)
                    else:
                        told = carried(yard, number)
                        self.assertEqual(told, plainly_carried(ways, number))
                        having = [bridge for bridge, place in told]
                        self.assertEqual(len(having), len(set(having)))
                        longest = max(longest, len(told))
        self.assertGreater(longest, 4)


class PartTest(unittest.TestCase):

    def test_rising(self):
        yard = settled_yard()
        for number in range(7):
            self.assertEqual(part_of(yard, number), [0, 1, 2, 3, 4, 5, 6])
        yard.deed(("fall", "tie", 1))
        self.assertEqual([part_of(yard, number) for number in (0, 6)], [[0, 1, 5, 6]] * 2)
        self.assertEqual([part_of(yard, number) for number in (4, 2)], [[2, 3, 4]] * 2)

    def test_without_open_ways(self):
        self.assertEqual(part_of(Yard(NET, 40), 3), [3])

    def test_alike_or_with_nothing_in_common(self):
        for seed in range(40):
            chance = random.Random(seed)
            yard = Yard(drawn_net(chance), 40)
            for deed in drawn_yard_deeds(chance, yard, 250, (0, 0.01, 0.1)[seed % 3]):
                parts = {number: part_of(yard, number) for number, label in yard.labels()}
                for number, part in parts.items():
                    self.assertEqual(part, sorted(bridge for bridge, place in carried(yard, number)))
                    self.assertIn(number, part)
                    for other in parts:
                        self.assertEqual(parts[other] == part, other in part)
                        self.assertTrue(parts[other] == part or not set(parts[other]) & set(part))

    def test_of_settled_yards_just_those_that_can_be_come_to(self):
        for seed in range(60):
            chance = random.Random(seed)
            net = drawn_net(chance)
            yard = Yard(net, 40)
            for deed in drawn_yard_deeds(chance, yard, 100, 0.1):
                pass
            for k in range(rounds_told(net, 40)):
                quiet_round(yard)
            self.assertTrue(is_settled(yard))
            roots = {row[0]: row[1] for row in plainly_told(net, yard.down())}
            for number in roots:
                near = sorted(other for other in roots if roots[other] == roots[number])
                self.assertEqual(part_of(yard, number), near)
                self.assertEqual(sorted(bridge for bridge, place in carried(yard, number)), near)


if __name__ == "__main__":
    unittest.main()

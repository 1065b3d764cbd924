"""All rows of a few deeds (point 32)."""

import copy
import random
import unittest

from drawn import drawn_net, drawn_yard_deeds
from model import ModelYard
from shutways.allrows import all_rows, first_row
from shutways.errors import NoDeed
from shutways.nets import make_net
from shutways.ways import is_ranked, open_ways, rank_paper
from shutways.yards import Yard

PAIR = make_net([1, 2], [(1, 2, 5)])
# Behind these one tick of 1 and its coming are wanting to an open way.
NEARLY = [("tick", 1), ("come", 0), ("tick", 2), ("come", 0)]


def yard_of(net, greatest, deeds):
    yard = Yard(net, greatest)
    for deed in deeds:
        yard.deed(deed)
    return yard


def deeds_told(net, letters, falls):
    """All deeds that may be, in the order of point 32, whether or not they can be done."""
    told = [("tick", bridge) for bridge in net[0]]
    told += [(word, place) for word in ("come", "lost") for place in range(letters)]
    if falls:
        for word in ("fall", "back"):
            told += [(word, "bridge", bridge) for bridge in net[0]]
            told += [(word, "tie", place) for place in range(len(net[1]))]
    return told


def plain_rows(yard, many, falls):
    """All rows as (row, yard behind it), by trying everything on a copy."""
    rows = [((), yard)]
    for turn in range(many):
        longer = []
        for row, there in rows:
            for deed in deeds_told(yard.net(), len(there.road()) + 1, falls):
                behind = copy.deepcopy(there)
                try:
                    behind.deed(deed)
                except NoDeed:
                    continue
                longer.append((row + (deed,), behind))
        rows = longer
    return rows


class AllRowsTest(unittest.TestCase):

    def test_of_no_deeds_there_is_one_row(self):
        self.assertEqual(all_rows(PAIR, 20, [], 0, False), [1])
        self.assertEqual(all_rows(PAIR, 20, [], 0, True), [1])
        self.assertEqual(all_rows(PAIR, 20, NEARLY + [("tick", 1), ("come", 0)], 0, False), [0, 1])

    def test_one_bridge(self):
        net = make_net([7], [])
        for many in range(5):
            self.assertEqual(all_rows(net, 4, [], many, False), [1])
        # Up it can tick or fall, down it can come back.
        self.assertEqual([sum(all_rows(net, 4, [], many, True)) for many in range(5)], [1, 2, 3, 5, 8])

    def test_of_one_deed(self):
        self.assertEqual(all_rows(PAIR, 20, [], 1, False), [2])
        self.assertEqual(all_rows(PAIR, 20, [], 1, True), [5])
        self.assertEqual(all_rows(PAIR, 20, [("tick", 1), ("tick", 2)], 1, False), [6])
        self.assertEqual(all_rows(PAIR, 20, [("fall", "tie", 0)], 1, True), [5])

    def test_an_open_way(self):
        # Of two deeds a tick of 1 and its letter's coming open the way.
        self.assertEqual(all_rows(PAIR, 20, NEARLY, 2, False), [7, 1])
        self.assertEqual(all_rows(PAIR, 20, NEARLY + [("tick", 1)], 1, False), [3, 1])

    def test_noughts_between(self):
        # Two bridges, each with a child, fall as one: nothing, or two ways.
        net = make_net([1, 2, 3], [(1, 2, 1), (1, 3, 1)])
        ahead = [("tick", 1), ("come", 0), ("come", 0)]
        ahead += [("tick", 2), ("tick", 3), ("come", 0), ("come", 0), ("tick", 1), ("come", 0), ("come", 0)]
        self.assertEqual(len(open_ways(yard_of(net, 20, ahead))), 2)
        self.assertEqual(all_rows(net, 20, ahead, 0, False), [0, 0, 1])
        self.assertEqual(all_rows(net, 20, ahead, 1, False), [0, 0, 3])
        # Falls: of bridge 1 none is left, of 2 or 3 or a tie one.
        self.assertEqual(all_rows(net, 20, ahead, 1, True), [1, 4, 3])

    def test_where_no_row_can_be_done(self):
        ahead = [("fall", "bridge", 1), ("fall", "bridge", 2)]
        self.assertEqual(all_rows(PAIR, 20, ahead, 0, False), [1])
        for many in range(1, 5):
            self.assertEqual(all_rows(PAIR, 20, ahead, many, False), [])
        # With falls: both bridges back, or the tie's fall.
        self.assertEqual(all_rows(PAIR, 20, ahead, 1, True), [3])
        # One letter is left on the road, and then nothing.
        ahead = [("tick", 1)] + ahead
        self.assertEqual(all_rows(PAIR, 20, ahead, 1, False), [2])
        self.assertEqual(all_rows(PAIR, 20, ahead, 2, False), [])

    def test_what_is_handed_in_stays(self):
        ahead = list(NEARLY)
        told = all_rows(PAIR, 20, ahead, 2, True)
        row = first_row(PAIR, 20, ahead, 2, True, 1)
        self.assertEqual(ahead, NEARLY)
        kept = (list(told), list(row))
        ahead.clear()
        self.assertEqual((told, row), kept)

    def test_lists_told_are_the_askers_own(self):
        for many in (0, 2):
            told = all_rows(PAIR, 20, NEARLY, many, False)
            row = first_row(PAIR, 20, NEARLY, many, False, 0)
            for one in (told, row):
                self.assertIs(type(one), list)
            kept = (list(told), list(row))
            self.assertIsNot(told, all_rows(PAIR, 20, NEARLY, many, False))
            self.assertIsNot(row, first_row(PAIR, 20, NEARLY, many, False, 0))
            told.clear()
            row.append(None)
            self.assertEqual(
                (all_rows(PAIR, 20, NEARLY, many, False), first_row(PAIR, 20, NEARLY, many, False, 0)), kept)

    def test_a_row_ahead_that_cannot_be_done(self):
        with self.assertRaises(NoDeed):
            all_rows(PAIR, 20, [("come", 0)], 1, False)
        with self.assertRaises(NoDeed):
            first_row(PAIR, 20, [("come", 0)], 1, False, 0)


class FirstRowTest(unittest.TestCase):

    def test_the_first_in_order(self):
        self.assertEqual(first_row(PAIR, 20, NEARLY, 2, False, 1), [("tick", 1), ("come", 0)])
        self.assertEqual(first_row(PAIR, 20, NEARLY, 2, False, 0), [("tick", 1), ("tick", 1)])
        self.assertEqual(first_row(PAIR, 20, NEARLY, 3, False, 1), [("tick", 1), ("tick", 1), ("come", 0)])
        self.assertEqual(first_row(PAIR, 20, NEARLY, 4, True, 1), [("tick", 1)] * 3 + [("come", 0)])

    def test_of_no_deeds(self):
        self.assertEqual(first_row(PAIR, 20, NEARLY, 0, False, 0), [])
        self.assertIsNone(first_row(PAIR, 20, NEARLY, 0, False, 1))
        self.assertEqual(first_row(PAIR, 20, NEARLY + [("tick", 1), ("come", 0)], 0, True, 1), [])

    def test_none(self):
        self.assertIsNone(first_row(PAIR, 20, NEARLY, 1, False, 1))
        self.assertIsNone(first_row(PAIR, 20, NEARLY, 2, False, 2))
        ahead = [("fall", "bridge", 1), ("fall", "bridge", 2)]
        self.assertIsNone(first_row(PAIR, 20, ahead, 1, False, 0))
        self.assertEqual(first_row(PAIR, 20, ahead, 1, True, 0), [("fall", "tie", 0)])

    def test_losing_and_falls(self):
        # All but the deed asked for can't be done.
        ahead = [("tick", 1), ("fall", "bridge", 1), ("fall", "bridge", 2), ("fall", "tie", 0)]
        self.assertEqual(first_row(PAIR, 20, ahead, 1, False, 0), [("come", 0)])
        ahead.append(("lost", 0))
        self.assertEqual(first_row(PAIR, 20, ahead, 1, True, 0), [("back", "bridge", 1)])
        self.assertEqual(
            first_row(PAIR, 20, ahead, 4, True, 0),
            [("back", "bridge", 1), ("tick", 1), ("tick", 1), ("tick", 1)])
        self.assertEqual(first_row(PAIR, 20, ahead + [("back", "tie", 0)], 1, True, 0), [("fall", "tie", 0)])


class AgainstAllTriedTest(unittest.TestCase):

    def setUp(self):
        self.seen = 0

    def hold_against(self, net, greatest, ahead, many, falls):
        rows = plain_rows(yard_of(net, greatest, ahead), many, falls)
        ways = [len(open_ways(yard)) for row, yard in rows]
        counts = [ways.count(number) for number in range(max(ways, default=-1) + 1)]
        self.assertEqual(all_rows(net, greatest, ahead, many, falls), counts)
        for number in range(6):
            first = [list(row) for (row, yard), there in zip(rows, ways) if there >= number]
            self.assertEqual(first_row(net, greatest, ahead, many, falls, number), first[0] if first else None)
        for row, yard in rows:
            self.assertTrue(is_ranked(net, open_ways(yard), rank_paper(yard)))
        self.seen = max([self.seen] + ways)

    def test_drawn_nets(self):
        for seed in range(60):
            chance = random.Random(seed)
            net = drawn_net(chance, 4, 4)
            greatest = chance.choice((5, 40, 40))
            yard = Yard(net, greatest)
            ahead = list(drawn_yard_deeds(chance, yard, chance.choice((0, 5, 100, 200)), (0, 0.05)[seed % 4 // 2], 0, 1))
            letters = len(yard.road())
            many = 2 if letters < 8 else 1
            self.hold_against(net, greatest, ahead, chance.randint(0, many), bool(seed % 2))
        self.assertGreater(self.seen, 1)

    def test_of_three_and_four_deeds(self):
        triangle = make_net([2, 4, 9], [(2, 4, 1), (4, 9, 1), (2, 9, 3)])
        self.hold_against(triangle, 12, [], 3, False)
        self.hold_against(PAIR, 8, NEARLY, 4, False)
        self.hold_against(PAIR, 8, NEARLY, 3, True)
        self.hold_against(make_net([5], []), 4, [], 4, True)

    def test_counts_against_the_model(self):
        """Four deeds with falls: counted over the model's yard, which was written apart."""
        net = make_net([1, 2, 3], [(1, 2, 1), (2, 3, 2)])
        model = ModelYard(net, 12)
        ahead = [("tick", 1), ("come", 0), ("tick", 2), ("come", 0), ("come", 0)]
        for deed in ahead:
            model.deed(deed)
        counts = {}
        rows = [model]
        for turn in range(3):
            longer = []
            for there in rows:
                down = there.down()
                for deed in deeds_told(net, len(there.road), True):
                    sort = 0 if deed[1:2] == ("bridge",) else 1
                    if deed[0] == "tick" and deed[1] in down[0]:
                        continue
                    if deed[0] in ("fall", "back") and (deed[2] in down[sort]) != (deed[0] == "back"):
                        continue
                    behind = copy.deepcopy(there)
                    behind.deed(deed)
                    longer.append(behind)
            rows = longer
        for there in rows:
            counts[len(there.open_ways())] = counts.get(len(there.open_ways()), 0) + 1
        self.assertEqual(
            all_rows(net, 12, ahead, 3, True), [counts.get(k, 0) for k in range(max(counts) + 1)])
        self.assertGreater(max(counts), 0)

    def test_four_bridges_and_four_ties(self):
        net = make_net([1, 2, 3, 4], [(1, 2, 1), (2, 3, 1), (3, 4, 1), (1, 4, 1)])
        ahead = []
        for k in range(5):
            ahead += [("tick", bridge) for bridge in net[0]] + [("come", 0)] * 8
        self.assertEqual(all_rows(net, 16, ahead, 0, False), [0, 0, 0, 1])
        self.assertEqual(sum(all_rows(net, 16, ahead, 4, False)), 3072)
        self.assertEqual(sum(all_rows(net, 16, ahead, 3, True)), 2156)
        self.hold_against(net, 16, ahead, 2, True)


if __name__ == "__main__":
    unittest.main()

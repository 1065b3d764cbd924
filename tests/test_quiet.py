"""Quiet rounds and settled yards (points 21, 22 and 24)."""

import random
import unittest

from drawn import drawn_deed, drawn_net, drawn_yard_deeds
from model import ModelYard, seen_of_model, seen_of_yard
from shutways.nets import make_net
from shutways.quiet import is_settled, quiet_round, rounds_told
from shutways.trees import plain_tree, ways_of
from shutways.ways import open_ways
from shutways.yards import Yard

NET = make_net([1, 2, 3], [(1, 2, 4), (2, 3, 1), (3, 1, 7)])


class Watched(Yard):
    """A yard that notes its deeds."""

    def __init__(self, net, greatest):
        self.seen_deeds = []
        super().__init__(net, greatest)

    def deed(self, some):
        super().deed(some)
        self.seen_deeds.append(some)


class QuietRoundTest(unittest.TestCase):

    def test_tick_by_tick_and_letter_by_letter(self):
        yard = Watched(NET, 20)
        self.assertIsNone(quiet_round(yard))
        self.assertEqual(yard.seen_deeds, [("tick", 1), ("tick", 2), ("tick", 3)] + [("come", 0)] * 6)
        self.assertEqual(yard.road(), [])

    def test_those_that_are_up_alone_and_what_was_on_the_road(self):
        yard = Watched(NET, 20)
        for deed in (("tick", 3), ("tick", 2), ("fall", "bridge", 2)):
            yard.deed(deed)
        yard.seen_deeds.clear()
        quiet_round(yard)
        self.assertEqual(yard.seen_deeds, [("tick", 1), ("tick", 3)] + [("come", 0)] * 6)
        self.assertEqual(yard.road(), [])

    def test_where_all_has_fallen(self):
        yard = Yard(NET, 20)
        yard.deed(("tick", 1))
        for number in (1, 2, 3):
            yard.deed(("fall", "bridge", number))
        quiet_round(yard)
        self.assertEqual((yard.road(), yard.labels()), ([], []))

    def test_what_comes_of_the_first_rounds(self):
        yard = Yard(NET, 20)
        seen = []
        for k in range(4):
            quiet_round(yard)
            seen.append(([label[:3] for number, label in yard.labels()], open_ways(yard)))
        self.assertEqual(seen, [
            ([(1, 0, None), (2, 0, None), (3, 0, None)], []),
            ([(1, 0, None), (1, 4, 0), (1, 7, 2)], []),
            ([(1, 0, None), (1, 4, 0), (1, 5, 1)], [(0, 2, 1)]),
            ([(1, 0, None), (1, 4, 0), (1, 5, 1)], [(0, 2, 1), (1, 3, 2)])])

    def test_as_the_model_has_them(self):
        for seed in range(60):
            chance = random.Random(seed)
            net = drawn_net(chance)
            greatest = chance.choice((4, 10, 40))
            yard, model = Yard(net, greatest), ModelYard(net, greatest)
            for turn in range(8):
                for k in range(chance.randrange(30)):
                    deed = drawn_deed(chance, net, model.down(), len(model.road), 0.1)
                    yard.deed(deed)
                    model.deed(deed)
                for k in range(chance.randrange(8)):
                    quiet_round(yard)
                    model.quiet_round()
                    self.assertEqual(seen_of_yard(yard), seen_of_model(model))
                    self.assertIs(is_settled(yard), model.is_settled())


class SettledTest(unittest.TestCase):

    def settled_yard(self, net=NET):
        yard = Yard(net, 40)
        for k in range(12):
            quiet_round(yard)
        self.assertIs(is_settled(yard), True)
        return yard

    def as_told(self, yard):
        """Whether labels are as in 22, and whether open ways are."""
        tree = plain_tree(yard.net(), yard.down())
        labels = [(number,) + label[:3] for number, label in yard.labels()]
        return (labels == tree, [way[0] for way in open_ways(yard)] == ways_of(tree))

    def test_new_yards(self):
        self.assertIs(is_settled(Yard(NET, 40)), False)
        self.assertIs(is_settled(Yard(make_net([5], []), 4)), True)
        self.assertIs(is_settled(Yard(make_net([5, 7, 900], []), 4)), True)

    def test_by_rounds(self):
        yard = Yard(NET, 40)
        seen = []
        for k in range(6):
            seen.append(is_settled(yard))
            quiet_round(yard)
        self.assertEqual(seen, [False, False, False, False, True, True])

    def test_where_labels_are_right_and_ways_are_not(self):
        yard = Yard(NET, 40)
        for k in range(3):
            quiet_round(yard)
        self.assertEqual(self.as_told(yard), (True, False))
        self.assertIs(is_settled(yard), False)

    def test_where_ways_are_right_and_labels_are_not(self):
        yard = self.settled_yard(make_net([1, 2, 3], [(1, 2, 4), (2, 3, 1)]))
        yard.deed(("fall", "bridge", 1))
        self.assertEqual(self.as_told(yard), (False, True))
        self.assertIs(is_settled(yard), False)

    def test_where_the_tie_of_a_way_falls_and_comes_back(self):
        yard = self.settled_yard(make_net([1, 2], [(1, 2, 4), (1, 2, 9)]))
        yard.deed(("fall", "tie", 0))
        self.assertIs(is_settled(yard), False)
        for k in range(12):
            quiet_round(yard)
        self.assertIs(is_settled(yard), True)
        yard.deed(("back", "tie", 0))
        self.assertIs(is_settled(yard), False)

    def test_what_falls_and_is_not_in_the_tree(self):
        yard = self.settled_yard()
        yard.deed(("fall", "tie", 2))
        self.assertIs(is_settled(yard), True)
        yard.deed(("fall", "bridge", 3))
        self.assertIs(is_settled(yard), True)
        yard.deed(("fall", "bridge", 2))
        self.assertIs(is_settled(yard), True)
        yard.deed(("fall", "bridge", 1))
        self.assertIs(is_settled(yard), True)
        yard.deed(("back", "bridge", 1))
        self.assertIs(is_settled(yard), True)
        yard.deed(("back", "bridge", 2))
        self.assertIs(is_settled(yard), False)

    def test_letters_on_the_road_do_not_count(self):
        yard = self.settled_yard()
        yard.deed(("tick", 3))
        self.assertEqual(len(yard.road()), 2)
        self.assertIs(is_settled(yard), True)

    def test_looking_changes_nothing(self):
        chance = random.Random(22)
        yard = Yard(NET, 20)
        for deed in drawn_yard_deeds(chance, yard, 200):
            seen = seen_of_yard(yard)
            is_settled(yard)
            self.assertEqual(seen_of_yard(yard), seen)

    def test_at_many_moments_as_the_model_has_it(self):
        told = {True: 0, False: 0}
        for seed in range(60):
            chance = random.Random(seed)
            net = drawn_net(chance, 5, 6)
            yard, model = Yard(net, 20), ModelYard(net, 20)
            for turn in range(200):
                deed = drawn_deed(chance, net, model.down(), len(model.road), 0.02)
                yard.deed(deed)
                model.deed(deed)
                told[is_settled(yard)] += 1
                self.assertIs(is_settled(yard), model.is_settled())
        self.assertGreater(min(told.values()), 500)


class RoundsToldTest(unittest.TestCase):

    def test_the_number(self):
        self.assertEqual(rounds_told(make_net([0], []), 4), 14)
        self.assertEqual(rounds_told(NET, 20), 38)
        self.assertEqual(rounds_told(make_net(list(range(10)), [(0, 1, 1)] * 16), 200), 246)
        self.assertEqual(rounds_told(NET, 4), 22)

    def settles(self, yard, more):
        for k in range(rounds_told(yard.net(), yard.greatest())):
            quiet_round(yard)
        self.assertIs(is_settled(yard), True)
        for k in range(more):
            quiet_round(yard)
            self.assertIs(is_settled(yard), True)

    def test_yards_at_whatever_moment(self):
        for seed in range(250):
            chance = random.Random(seed)
            net = drawn_net(chance)
            least = max(4, 4 * len(net[0]))
            greatest = chance.choice((least, least, least + 1, chance.randint(least, 100)))
            yard = Yard(net, greatest)
            falls = (0, 0.02, 0.1, 0.4)[seed % 4]
            lost, front = chance.choice((0, 0.05, 0.3)), chance.choice((0, 0.5, 1))
            for deed in drawn_yard_deeds(chance, yard, chance.randrange(400), falls, lost, front):
                pass
            self.settles(yard, 6)

    def test_and_stays_so_for_long(self):
        for seed in range(6):
            chance = random.Random(seed)
            net = drawn_net(chance, 6, 10)
            yard = Yard(net, 4 * len(net[0]))
            for deed in drawn_yard_deeds(chance, yard, 200, 0.05):
                pass
            self.settles(yard, 200)

    def test_the_longest_row_and_the_ring_of_ten(self):
        row = [(k, k + 1, 1000) for k in range(9)]
        for ties in (row, row + [(9, 0, 1)], row + [(k, k + 2, 1) for k in range(7)]):
            net = make_net(list(range(10)), ties)
            yard = Yard(net, 40)
            self.settles(yard, 3)
            for deed in (("fall", "bridge", 0), ("fall", "tie", 4), ("back", "bridge", 0), ("back", "tie", 4)):
                yard.deed(deed)
                self.settles(yard, 3)

    def test_a_root_that_is_gone_is_forgotten(self):
        net = make_net([0, 1, 2, 3], [(0, 1, 1), (1, 2, 1), (2, 3, 1), (1, 3, 1)])
        yard = Yard(net, 16)
        self.settles(yard, 1)
        yard.deed(("fall", "bridge", 0))
        quiet_round(yard)
        self.assertIn(0, [label[0] for number, label in yard.labels()])
        self.settles(yard, 3)
        self.assertEqual([label[0] for number, label in yard.labels()], [1, 1, 1])


if __name__ == "__main__":
    unittest.main()

"""How long it takes (point 35)."""

import random
import unittest

from drawn import NO_DEEDS, drawn_net, drawn_yard_deeds
from model import ModelYard
from shutways.bounds import settling, settling_falls
from shutways.errors import NoDeed
from shutways.nets import make_net
from shutways.quiet import is_settled, quiet_round, rounds_told
from shutways.yards import Yard

PAIR = make_net([1, 2], [(1, 2, 5)])
RING = make_net([1, 2, 3, 4], [(1, 2, 1), (2, 3, 1), (3, 4, 1), (4, 1, 1)])
CHAIN = make_net([1, 2, 3, 4, 5, 6], [(1, 2, 1), (2, 3, 1), (3, 4, 1), (4, 5, 1), (5, 6, 1)])


def plainly_settling(model):
    """The first number of quiet rounds, to the told one, behind which the model's yard is settled."""
    for rounds in range(model.greatest + 4 * len(model.net[0]) + 7):
        if model.is_settled():
            return rounds
        model.quiet_round()
    return None


def model_behind(net, greatest, deeds):
    model = ModelYard(net, greatest)
    for deed in deeds:
        model.deed(deed)
    return model


def quiet_deeds(net, rounds):
    """The deeds of so many quiet rounds of a new yard."""
    return ([("tick", bridge) for bridge in net[0]] + [("come", 0)] * (2 * len(net[1]))) * rounds


class SettlingTest(unittest.TestCase):

    def test_settled_already(self):
        self.assertEqual(settling(make_net([7], []), 4, []), 0)
        self.assertEqual(settling(make_net([7, 8], []), 4, []), 0)
        self.assertEqual(settling(PAIR, 20, [("fall", "tie", 0)]), 0)
        self.assertEqual(settling(PAIR, 20, [("fall", "bridge", 1), ("fall", "bridge", 2)]), 0)
        self.assertEqual(settling(RING, 20, quiet_deeds(RING, 20)), 0)

    def test_a_pair(self):
        # 2 learns of 1, then 1 of that, and then 2 of 1's agreeing.
        self.assertEqual(settling(PAIR, 20, []), 3)
        self.assertEqual(settling(PAIR, 20, quiet_deeds(PAIR, 1)), 2)
        self.assertEqual(settling(PAIR, 20, quiet_deeds(PAIR, 2)), 1)
        self.assertEqual(settling(PAIR, 20, quiet_deeds(PAIR, 3)), 0)

    def test_none_where_the_told_number_is_not_enough(self):
        self.assertIsNone(settling(CHAIN, 4, []))
        self.assertIsNotNone(settling(CHAIN, 24, []))
        self.assertIsNone(settling(CHAIN, 6, quiet_deeds(CHAIN, 3)))

    def test_a_root_that_fell_is_told_on_till_it_is_too_old(self):
        most = 0
        for greatest in range(4, 60):
            net = make_net([1, 2, 3], [(1, 2, 1), (2, 3, 1), (1, 3, 1)])
            deeds = quiet_deeds(net, 12) + [("fall", "bridge", 1)]
            told = settling(net, greatest, deeds)
            self.assertEqual(told, plainly_settling(model_behind(net, greatest, deeds)))
            most = max(most, told)
        self.assertGreater(most, 25)

    def test_no_deed(self):
        for some in NO_DEEDS + (("come", 0), ("tick", 3), ("back", "tie", 0)):
            with self.assertRaises(NoDeed, msg=repr(some)):
                settling(PAIR, 20, [some])
            with self.assertRaises(NoDeed, msg=repr(some)):
                settling(PAIR, 20, [("tick", 1), ("lost", 0), some, ("tick", 1)])

    def test_what_is_handed_in_stays(self):
        deeds = [("tick", 1), ("fall", "tie", 0), ("back", "tie", 0)]
        kept = list(deeds)
        self.assertEqual(settling(PAIR, 20, deeds), settling(PAIR, 20, deeds))
        self.assertEqual(deeds, kept)

    def test_drawn_rows(self):
        most = 0
        for seed in range(80):
            chance = random.Random(seed)
            net = drawn_net(chance)
            greatest = chance.choice((4 * len(net[0]), 40, 60))
            yard = Yard(net, greatest)
            deeds = list(drawn_yard_deeds(chance, yard, chance.choice((0, 5, 50, 300)), (0, 0.02, 0.1)[seed % 3]))
            rounds = settling(net, greatest, deeds)
            self.assertEqual(rounds, plainly_settling(model_behind(net, greatest, deeds)))
            self.assertTrue(0 <= rounds <= rounds_told(net, greatest))
            for k in range(rounds):
                self.assertFalse(is_settled(yard))
                quiet_round(yard)
            self.assertTrue(is_settled(yard))
            most = max(most, rounds)
        self.assertGreater(most, 10)

    def test_drawn_rows_with_lesser_ages(self):
        seen = []
        for seed in range(60):
            chance = random.Random(seed)
            net = drawn_net(chance)
            greatest = chance.choice((4, 5, 6))
            deeds = list(drawn_yard_deeds(chance, Yard(net, greatest), chance.choice((0, 50, 200)), 0.02))
            rounds = settling(net, greatest, deeds)
            self.assertEqual(rounds, plainly_settling(model_behind(net, greatest, deeds)))
            seen.append(rounds)
        self.assertIn(None, seen)
        self.assertGreater(len(set(seen)), 4)


class SettlingFallsTest(unittest.TestCase):

    def test_two_lists(self):
        told = settling_falls(PAIR, 20)
        self.assertIs(type(told), tuple)
        bridges, ties = told
        self.assertEqual((len(bridges), len(ties)), (2, 1))
        self.assertIs(type(bridges), list)
        self.assertIs(type(ties), list)
        # Without 2 nothing has to turn; without 1, or cut off from it, 2 has
        # to be its own root: at once, as it has lost the letter.
        self.assertEqual(told, ([1, 0], [1]))

    def test_one_bridge(self):
        self.assertEqual(settling_falls(make_net([7], []), 4), ([0], []))

    def test_against_settling_and_the_model(self):
        for seed in range(25):
            chance = random.Random(seed)
            net = drawn_net(chance, 6, 8)
            greatest = (4 * len(net[0]), 40, 5)[seed % 3]
            ahead = quiet_deeds(net, rounds_told(net, greatest))
            falls = (
                [("fall", "bridge", bridge) for bridge in net[0]], [("fall", "tie", k) for k in range(len(net[1]))])
            plain = tuple(
                [plainly_settling(model_behind(net, greatest, ahead + [fall])) for fall in row] for row in falls)
            self.assertEqual(settling_falls(net, greatest), plain)
            if net[1]:
                self.assertEqual(settling(net, greatest, ahead + [falls[1][0]]), plain[1][0])

    def test_none_in_it(self):
        bridges, ties = settling_falls(CHAIN, 4)
        self.assertIn(None, bridges)
        self.assertIn(None, ties)

    def test_a_great_net(self):
        chance = random.Random(3)
        bridges = list(range(10))
        ties = [(k, k + 1, 3) for k in range(9)] + [tuple(chance.sample(bridges, 2)) + (5,) for k in range(7)]
        net = make_net(bridges, ties)
        of_bridges, of_ties = settling_falls(net, 200)
        self.assertEqual((len(of_bridges), len(of_ties)), (10, 16))
        for rounds in of_bridges + of_ties:
            self.assertTrue(0 <= rounds <= rounds_told(net, 200))
        self.assertGreater(of_bridges[0], 100)

    def test_lists_told_are_the_askers_own(self):
        told = settling_falls(PAIR, 20)
        told[0].clear()
        told[1].clear()
        self.assertEqual(settling_falls(PAIR, 20), ([1, 0], [1]))
        one, other = settling_falls(make_net([1], []), 20), settling_falls(make_net([1], []), 20)
        self.assertIsNot(one[0], one[1])
        self.assertIsNot(one[1], other[1])


if __name__ == "__main__":
    unittest.main()

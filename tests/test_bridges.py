"""A bridge by itself (points 11 to 14)."""

import random
import unittest

from model import ModelBridge
from shutways.bridges import Bridge
from shutways.letters import is_letter

TIES = [(4, 3, 10), (0, 8, 2), (2, 3, 10)]


def bridge_of(ties=TIES, number=5, life=0, greatest=20):
    return Bridge(number, life, ties, greatest)


def letter(number=(0, 0), stamp=(0, 0), root=1, cost=0, age=0, rests=None, agrees=None):
    return (number, stamp, root, cost, age, rests, agrees)


class NewBridgeTest(unittest.TestCase):

    def test_label_and_stamp(self):
        self.assertEqual(bridge_of().label(), (5, 0, None, None))
        self.assertEqual(bridge_of().stamp(), (0, 0))
        self.assertEqual(bridge_of(number=0, life=7).label(), (0, 0, None, None))
        self.assertEqual(bridge_of(life=7).stamp(), (7, 0))

    def test_ends_and_held_letters(self):
        bridge = bridge_of()
        self.assertEqual([bridge.end(k) for k in range(6)], ["shut", "down", "shut", "down", "shut", "down"])
        self.assertEqual([bridge.held(k) for k in range(6)], [None] * 6)

    def test_without_ties(self):
        bridge = bridge_of(ties=[])
        self.assertEqual(bridge.tick(), [])
        self.assertEqual(bridge.end(0), "down")
        self.assertEqual(bridge.label(), (5, 0, None, None))
        self.assertEqual(bridge.stamp(), (0, 0))

    def test_the_list_of_ties_stays_and_is_not_kept(self):
        ties = list(TIES)
        bridge = bridge_of(ties=ties)
        bridge.down(0)
        bridge.up(7, 1, 1)
        bridge.tick()
        self.assertEqual(ties, TIES)
        other = bridge_of(ties=ties)
        ties.clear()
        ties.append((1, 9, 9))
        self.assertEqual([place for place, sent in other.tick()], [0, 2, 4])
        self.assertEqual(other.end(1), "down")

    def test_two_bridges_of_one_list_have_nothing_in_common(self):
        ties = list(TIES)
        one, other = bridge_of(ties=ties), bridge_of(ties=ties)
        one.down(0)
        one.hear(2, letter())
        one.tick()
        self.assertEqual(other.end(0), "shut")
        self.assertIsNone(other.held(2))
        self.assertEqual(other.label(), (5, 0, None, None))


class HearTest(unittest.TestCase):

    def test_held_with_its_own_age(self):
        bridge = bridge_of()
        self.assertIsNone(bridge.hear(4, letter(age=6)))
        self.assertEqual(bridge.held(4), (letter(age=6), 6))
        self.assertIs(type(bridge.held(4)), tuple)
        self.assertIsNone(bridge.held(2))
        bridge.hear(2, letter())
        self.assertEqual(bridge.held(2), (letter(), 0))
        self.assertEqual(bridge.held(4), (letter(age=6), 6))

    def test_over_ties_that_are_not_up(self):
        bridge = bridge_of()
        bridge.hear(1, letter())
        bridge.hear(99, letter())
        bridge.down(4)
        bridge.hear(4, letter())
        self.assertEqual([bridge.held(k) for k in (1, 99, 4)], [None] * 3)
        bridge.up(1, 3, 1)
        bridge.up(4, 3, 1)
        self.assertEqual([bridge.held(k) for k in (1, 99, 4)], [None] * 3)
        bridge.tick()
        self.assertEqual(bridge.label(), (5, 0, None, None))

    def test_newer_the_same_and_older(self):
        bridge = bridge_of()
        bridge.hear(4, letter(number=(1, 5), cost=1, age=3))
        for number in ((1, 5), (1, 4), (0, 9), (0, 0)):
            bridge.hear(4, letter(number=number, cost=2, age=0))
            self.assertEqual(bridge.held(4), (letter(number=(1, 5), cost=1, age=3), 3))
        for number in ((1, 6), (2, 0), (2, 7)):
            bridge.hear(4, letter(number=number, cost=number[1], age=7))
            self.assertEqual(bridge.held(4), (letter(number=number, cost=number[1], age=7), 7))

    def test_the_same_letter_again_does_not_make_it_younger(self):
        bridge = bridge_of()
        bridge.hear(4, letter())
        bridge.tick()
        bridge.hear(4, letter())
        self.assertEqual(bridge.held(4), (letter(), 1))

    def test_numbers_are_held_against_each_other_over_one_tie_alone(self):
        bridge = bridge_of()
        bridge.hear(4, letter(number=(9, 9)))
        bridge.hear(2, letter(number=(0, 0)))
        self.assertEqual(bridge.held(2), (letter(number=(0, 0)), 0))

    def test_hearing_changes_neither_label_nor_stamp(self):
        bridge = bridge_of()
        bridge.hear(4, letter(root=0))
        self.assertEqual(bridge.label(), (5, 0, None, None))
        self.assertEqual(bridge.stamp(), (0, 0))


class TiesTest(unittest.TestCase):

    def test_going_down_loses_the_held_letter(self):
        bridge = bridge_of()
        bridge.hear(4, letter(number=(5, 5)))
        self.assertIsNone(bridge.down(4))
        self.assertIsNone(bridge.held(4))
        self.assertEqual(bridge.end(4), "down")
        self.assertIsNone(bridge.up(4, 3, 10))
        self.assertIsNone(bridge.held(4))
        self.assertEqual(bridge.end(4), "shut")
        # What was lost is not held against what comes then.
        bridge.hear(4, letter(number=(0, 0)))
        self.assertEqual(bridge.held(4), (letter(number=(0, 0)), 0))

    def test_down_twice(self):
        bridge = bridge_of()
        bridge.down(4)
        bridge.down(4)
        bridge.down(77)
        self.assertEqual([place for place, sent in bridge.tick()], [0, 2])

    def test_up_twice_changes_nothing(self):
        bridge = bridge_of()
        bridge.hear(0, letter(root=1, cost=5))
        bridge.up(0, 1, 700)
        self.assertEqual(bridge.held(0), (letter(root=1, cost=5), 0))
        bridge.tick()
        self.assertEqual(bridge.label(), (1, 7, 0, (0, 0)))

    def test_up_with_another_cost(self):
        bridge = bridge_of()
        bridge.down(0)
        bridge.up(0, 8, 300)
        bridge.hear(0, letter(root=1, cost=5))
        bridge.tick()
        self.assertEqual(bridge.label(), (1, 305, 0, (0, 0)))

    def test_up_with_another_neighbour(self):
        # Of 8 and 3 the lesser one is the up; behind, of 2 and 3.
        bridge = bridge_of(ties=[(0, 8, 1), (1, 3, 1)])
        bridge.hear(0, letter())
        bridge.hear(1, letter())
        bridge.tick()
        self.assertEqual(bridge.label()[2], 1)
        bridge.down(0)
        bridge.up(0, 2, 1)
        bridge.hear(0, letter())
        bridge.tick()
        self.assertEqual(bridge.label()[2], 0)

    def test_a_tie_of_a_new_place(self):
        bridge = bridge_of(ties=[])
        bridge.up(9, 1, 4)
        bridge.hear(9, letter(root=1))
        self.assertEqual([place for place, sent in bridge.tick()], [9])
        self.assertEqual(bridge.label(), (1, 4, 9, (0, 0)))

    def test_the_label_stays_where_its_up_goes_down(self):
        bridge = bridge_of()
        bridge.hear(0, letter(root=1, cost=5, stamp=(3, 4)))
        bridge.tick()
        bridge.down(0)
        self.assertEqual(bridge.label(), (1, 7, 0, (3, 4)))
        self.assertEqual(bridge.stamp(), (0, 1))
        self.assertEqual(bridge.end(0), "down")
        bridge.up(0, 8, 2)
        self.assertEqual(bridge.label(), (1, 7, 0, (3, 4)))
        self.assertEqual(bridge.end(0), "shut")
        bridge.tick()
        self.assertEqual(bridge.label(), (5, 0, None, None))
        self.assertEqual(bridge.stamp(), (0, 2))


class AgesTest(unittest.TestCase):

    def test_one_more_each_tick_till_the_greatest(self):
        bridge = bridge_of(greatest=4)
        bridge.hear(4, letter())
        bridge.hear(2, letter(age=1))
        seen = []
        for k in range(5):
            bridge.tick()
            seen.append([held and held[1] for held in (bridge.held(4), bridge.held(2))])
        self.assertEqual(seen, [[1, 2], [2, 3], [3, None], [None, None], [None, None]])

    def test_the_letter_itself_keeps_its_age(self):
        bridge = bridge_of()
        bridge.hear(4, letter(age=2))
        bridge.tick()
        self.assertEqual(bridge.held(4), (letter(age=2), 3))

    def test_let_go_ahead_of_the_reckoning(self):
        bridge = bridge_of(greatest=8)
        bridge.hear(4, letter(age=7))
        bridge.tick()
        self.assertEqual(bridge.label(), (5, 0, None, None))
        self.assertIsNone(bridge.held(4))
        bridge.hear(4, letter(age=6))
        bridge.tick()
        self.assertEqual(bridge.label(), (1, 10, 4, (0, 0)))
        bridge.tick()
        self.assertEqual(bridge.label(), (5, 0, None, None))

    def test_heard_at_the_greatest_age_and_beyond(self):
        for age in (8, 9, 500):
            bridge = bridge_of(greatest=8)
            bridge.hear(4, letter(age=age))
            self.assertEqual(bridge.held(4), (letter(age=age), age))
            bridge.tick()
            self.assertIsNone(bridge.held(4))

    def test_let_go_is_not_held_against_what_comes_then(self):
        bridge = bridge_of(greatest=4)
        bridge.hear(4, letter(number=(3, 3), age=3))
        bridge.tick()
        bridge.hear(4, letter(number=(0, 1)))
        self.assertEqual(bridge.held(4), (letter(number=(0, 1)), 0))


class LabelTest(unittest.TestCase):

    def label_of(self, heard, ties=TIES, number=5):
        bridge = bridge_of(ties=ties, number=number)
        for place, told in heard:
            bridge.hear(place, told)
        bridge.tick()
        return bridge.label()

    def test_by_the_root(self):
        told = self.label_of([(0, letter(root=2, cost=0)), (4, letter(root=1, cost=900, stamp=(6, 7)))])
        self.assertEqual(told, (1, 910, 4, (6, 7)))

    def test_by_the_cost_and_the_ties(self):
        told = self.label_of([(0, letter(cost=9)), (4, letter(cost=0, stamp=(6, 7)))])
        self.assertEqual(told, (1, 10, 4, (6, 7)))
        told = self.label_of([(0, letter(cost=7, stamp=(1, 1))), (4, letter(cost=0, stamp=(6, 7)))])
        self.assertEqual(told, (1, 9, 0, (1, 1)))

    def test_by_the_neighbour(self):
        told = self.label_of([(0, letter(cost=8)), (4, letter(cost=0, stamp=(6, 7)))])
        self.assertEqual(told, (1, 10, 4, (6, 7)))

    def test_by_the_place(self):
        told = self.label_of([(4, letter()), (2, letter(stamp=(6, 7)))])
        self.assertEqual(told, (1, 10, 2, (6, 7)))

    def test_neither_age_nor_number_nor_stamp_decide(self):
        told = self.label_of([
            (4, letter(number=(9, 9), stamp=(9, 9), age=0)), (2, letter(stamp=(0, 0), age=15))])
        self.assertEqual(told, (1, 10, 2, (0, 0)))

    def test_itself_first_of_its_own_number_and_ahead_of_greater_ones(self):
        own = (5, 0, None, None)
        self.assertEqual(self.label_of([(0, letter(root=5, cost=0))]), own)
        self.assertEqual(self.label_of([(0, letter(root=6, cost=0))]), own)
        self.assertEqual(self.label_of([(0, letter(root=999)), (2, letter(root=5)), (4, letter(root=6))]), own)
        self.assertEqual(self.label_of([(0, letter(root=4, cost=900))]), (4, 902, 0, (0, 0)))
        self.assertEqual(self.label_of([(0, letter(root=0))], number=0), (0, 0, None, None))

    def test_the_version_is_one_more_just_where_the_label_becomes_another_one(self):
        bridge = bridge_of()
        rows = [
            (None, 0),
            (letter(number=(0, 0), root=5), 0),
            (letter(number=(0, 1)), 1),
            (letter(number=(0, 2)), 1),
            (letter(number=(0, 3), age=5, rests=(4, 4), agrees=(0, 1)), 1),
            (letter(number=(0, 4), stamp=(0, 1)), 2),
            (letter(number=(0, 5), stamp=(0, 1), cost=1), 3),
            (letter(number=(0, 6), stamp=(0, 1), root=0, cost=1), 4),
            (letter(number=(0, 7), stamp=(0, 0), root=1, cost=0), 5),
            (letter(number=(0, 8), root=7), 6),
            (letter(number=(0, 9), root=8), 6)]
        for told, version in rows:
            if told is not None:
                bridge.hear(4, told)
            bridge.tick()
            self.assertEqual(bridge.stamp(), (0, version), told)

    def test_another_up_of_the_same_root_and_cost_is_another_label(self):
        bridge = bridge_of()
        bridge.hear(4, letter(stamp=(2, 2)))
        bridge.tick()
        self.assertEqual((bridge.label(), bridge.stamp()), ((1, 10, 4, (2, 2)), (0, 1)))
        bridge.hear(2, letter(stamp=(2, 2)))
        bridge.tick()
        self.assertEqual((bridge.label(), bridge.stamp()), ((1, 10, 2, (2, 2)), (0, 2)))

    def test_the_stamp_has_the_life(self):
        bridge = bridge_of(life=3)
        bridge.hear(4, letter())
        bridge.tick()
        self.assertEqual(bridge.stamp(), (3, 1))


class SentTest(unittest.TestCase):

    def test_of_a_root(self):
        bridge = bridge_of(life=2)
        sent = letter(number=(2, 0), stamp=(2, 0), root=5, cost=0, age=0)
        told = bridge.tick()
        self.assertEqual(told, [(0, sent), (2, sent), (4, sent)])
        self.assertIs(type(told), list)
        self.assertTrue(all(type(pair) is tuple and is_letter(pair[1]) for pair in told))

    def test_count_of_ticks(self):
        bridge = bridge_of(life=2)
        bridge.tick()
        bridge.hear(0, letter())
        bridge.down(2)
        numbers = [bridge.tick()[0][1][0] for k in range(3)]
        self.assertEqual(numbers, [(2, 1), (2, 2), (2, 3)])

    def test_of_one_that_rests(self):
        bridge = bridge_of()
        bridge.hear(4, letter(root=1, cost=30, age=6, stamp=(7, 8)))
        told = bridge.tick()
        over_up = letter(number=(0, 0), stamp=(0, 1), root=1, cost=40, age=8, rests=(7, 8))
        over_others = letter(number=(0, 0), stamp=(0, 1), root=1, cost=40, age=8)
        self.assertEqual(told, [(0, over_others), (2, over_others), (4, over_up)])

    def test_the_age_sent_grows(self):
        bridge = bridge_of(greatest=6)
        bridge.hear(4, letter())
        bridge.hear(0, letter(root=3, age=4))
        ages = [bridge.tick()[0][1][4] for k in range(7)]
        self.assertEqual(ages, [2, 3, 4, 5, 6, 0, 0])

    def test_agrees_where_the_letter_rests_on_the_stamp(self):
        bridge = bridge_of()
        bridge.hear(0, letter(root=6, stamp=(3, 9), rests=(0, 0)))
        bridge.hear(2, letter(root=6, stamp=(4, 4), rests=(0, 1)))
        agrees = [sent[6] for place, sent in bridge.tick()]
        self.assertEqual(agrees, [(3, 9), None, None])

    def test_agrees_by_the_stamp_as_reckoned_just_now(self):
        bridge = bridge_of()
        bridge.hear(0, letter(root=6, stamp=(3, 9), rests=(0, 0)))
        bridge.hear(2, letter(root=6, stamp=(4, 4), rests=(0, 1)))
        bridge.hear(4, letter(root=1))
        told = bridge.tick()
        self.assertEqual([sent[1] for place, sent in told], [(0, 1)] * 3)
        self.assertEqual([sent[6] for place, sent in told], [None, (4, 4), None])
        self.assertEqual([sent[5] for place, sent in told], [None, None, (0, 0)])

    def test_over_the_up_nothing_is_agreed_to(self):
        bridge = bridge_of()
        bridge.hear(4, letter(root=1, stamp=(5, 5), rests=(0, 1)))
        told = dict(bridge.tick())
        self.assertEqual(told[4][5:], ((5, 5), None))

    def test_a_life_of_another_number_is_not_agreed_to(self):
        bridge = bridge_of(life=1)
        bridge.hear(0, letter(root=6, rests=(0, 0)))
        self.assertEqual(bridge.tick()[0][1][6], None)
        bridge.hear(0, letter(number=(0, 1), root=6, stamp=(0, 3), rests=(1, 0)))
        self.assertEqual(bridge.tick()[0][1][6], (0, 3))

    def test_of_letters_let_go_nothing_is_agreed_to(self):
        bridge = bridge_of(greatest=4)
        bridge.hear(0, letter(root=6, rests=(0, 0), age=3))
        self.assertEqual(bridge.tick()[0][1][6], None)

    def test_over_ties_that_are_up_alone_rising(self):
        bridge = bridge_of()
        bridge.down(2)
        bridge.up(11, 2, 2)
        bridge.up(1, 2, 2)
        self.assertEqual([place for place, sent in bridge.tick()], [0, 1, 4, 11])

    def test_a_new_list_each_time(self):
        bridge = bridge_of()
        first = bridge.tick()
        first.clear()
        second = bridge.tick()
        self.assertEqual(len(second), 3)


class EndsTest(unittest.TestCase):

    def test_child(self):
        bridge = bridge_of()
        bridge.hear(4, letter(stamp=(7, 8)))
        bridge.tick()
        self.assertEqual(bridge.end(4), "shut")
        bridge.hear(4, letter(number=(0, 1), stamp=(7, 8), agrees=(0, 1)))
        self.assertEqual(bridge.end(4), "child")
        bridge.tick()
        self.assertEqual(bridge.end(4), "child")

    def test_no_child_where_it_agrees_to_another_stamp(self):
        for agrees in (None, (0, 0), (0, 2), (1, 1)):
            bridge = bridge_of()
            bridge.hear(4, letter(stamp=(7, 8)))
            bridge.tick()
            bridge.hear(4, letter(number=(0, 1), stamp=(7, 8), agrees=agrees))
            self.assertEqual(bridge.end(4), "shut", agrees)

    def test_no_child_where_the_label_rests_on_another_stamp(self):
        bridge = bridge_of()
        bridge.hear(4, letter(stamp=(7, 8)))
        bridge.tick()
        bridge.hear(4, letter(number=(0, 1), stamp=(7, 9), agrees=(0, 1)))
        self.assertEqual(bridge.end(4), "shut")

    def test_no_child_over_another_tie(self):
        bridge = bridge_of()
        bridge.hear(4, letter(stamp=(7, 8)))
        bridge.tick()
        bridge.hear(2, letter(stamp=(7, 8), agrees=(0, 1)))
        self.assertEqual(bridge.end(2), "shut")

    def test_no_child_without_a_letter(self):
        bridge = bridge_of(greatest=4)
        bridge.hear(4, letter(stamp=(7, 8), agrees=(0, 1)))
        bridge.tick()
        self.assertEqual(bridge.end(4), "child")
        bridge.down(4)
        self.assertEqual(bridge.end(4), "down")
        bridge.up(4, 3, 10)
        self.assertEqual(bridge.end(4), "shut")
        bridge.hear(4, letter(stamp=(7, 8), agrees=(0, 1)))
        self.assertEqual(bridge.end(4), "child")

    def test_parent(self):
        bridge = bridge_of()
        bridge.hear(0, letter(root=6, rests=(0, 0)))
        self.assertEqual([bridge.end(k) for k in (0, 2, 4)], ["parent", "shut", "shut"])
        bridge.hear(2, letter(root=6, rests=(0, 0)))
        self.assertEqual([bridge.end(k) for k in (0, 2, 4)], ["parent", "parent", "shut"])
        bridge.hear(4, letter(root=1))
        bridge.tick()
        self.assertEqual([bridge.end(k) for k in (0, 2, 4)], ["shut", "shut", "shut"])
        bridge.hear(0, letter(number=(0, 1), root=1, cost=50, rests=(0, 1)))
        self.assertEqual([bridge.end(k) for k in (0, 2, 4)], ["parent", "shut", "shut"])

    def test_no_parent_where_it_rests_on_another_stamp(self):
        for rests in (None, (0, 1), (1, 0)):
            bridge = bridge_of()
            bridge.hear(0, letter(root=6, rests=rests))
            self.assertEqual(bridge.end(0), "shut", rests)

    def test_no_parent_over_its_up(self):
        bridge = bridge_of()
        bridge.hear(4, letter(root=1, rests=(0, 1)))
        bridge.tick()
        self.assertEqual(bridge.end(4), "shut")

    def test_no_parent_where_the_letter_is_let_go(self):
        bridge = bridge_of(greatest=4)
        bridge.hear(0, letter(root=6, rests=(0, 0), age=2))
        bridge.tick()
        self.assertEqual(bridge.end(0), "parent")
        bridge.tick()
        self.assertEqual(bridge.end(0), "shut")

    def test_down_and_up_again(self):
        bridge = bridge_of()
        bridge.hear(0, letter(root=6, rests=(0, 0)))
        bridge.down(0)
        self.assertEqual(bridge.end(0), "down")
        bridge.down(0)
        self.assertEqual(bridge.end(0), "down")
        bridge.up(0, 8, 2)
        self.assertEqual(bridge.end(0), "shut")
        self.assertEqual(bridge.end(1), "down")
        self.assertEqual(bridge.end(1000), "down")

    def test_asking_changes_nothing(self):
        bridge = bridge_of()
        bridge.hear(4, letter())
        for k in range(3):
            for place in range(6):
                bridge.end(place)
                bridge.held(place)
            bridge.label()
            bridge.stamp()
        self.assertEqual(bridge.held(4), (letter(), 0))
        self.assertEqual(bridge.tick()[0][1][0], (0, 0))


class AgainstTheModelTest(unittest.TestCase):

    def drawn_letter(self, chance, stamp):
        """A letter that often rests on or agrees to the stamp told."""
        def near():
            return chance.choice((None, stamp, stamp, (stamp[0], stamp[1] + 1), (0, chance.randrange(3))))

        return (
            (chance.randrange(2), chance.randrange(40)), (0, chance.randrange(3)), chance.randrange(7),
            chance.randrange(4), chance.randrange(6), near(), near())

    def step(self, chance, bridge, model):
        place = chance.randrange(5)
        draw = chance.random()
        if draw < 0.5:
            told = self.drawn_letter(chance, model.stamp())
            bridge.hear(place, told)
            model.hear(place, told)
        elif draw < 0.6:
            bridge.down(place)
            model.down(place)
        elif draw < 0.7:
            tie = (place, chance.randrange(7), chance.randint(1, 3))
            bridge.up(*tie)
            model.up(*tie)
        else:
            self.assertEqual(bridge.tick(), model.tick())

    def test_long_rows(self):
        ends = set()
        for seed in range(150):
            chance = random.Random(seed)
            number, life, greatest = chance.randrange(7), chance.randrange(2), chance.randint(4, 9)
            ties = [(k, chance.randrange(7), chance.randint(1, 3)) for k in range(5) if chance.random() < 0.7]
            bridge = Bridge(number, life, ties, greatest)
            model = ModelBridge(number, life, ties, greatest)
            for turn in range(200):
                self.step(chance, bridge, model)
                self.assertEqual((bridge.label(), bridge.stamp()), (model.label, model.stamp()))
                for place in range(6):
                    self.assertEqual(bridge.end(place), model.end(place))
                    self.assertEqual(bridge.held(place), model.held(place))
                    ends.add(model.end(place))
        self.assertEqual(ends, {"child", "parent", "shut", "down"})

    def test_what_was_told_stays(self):
        chance = random.Random(1114)
        bridge = bridge_of(greatest=6)
        model = ModelBridge(5, 0, TIES, 6)
        told = []
        for turn in range(300):
            self.step(chance, bridge, model)
            told.append((bridge.label(), model.label, bridge.held(0), model.held(0)))
        for label, wanted, held, as_held in told:
            self.assertEqual((label, held), (wanted, as_held))


if __name__ == "__main__":
    unittest.main()

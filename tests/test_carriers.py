"""Frames on their way (points 27 and 28)."""

import random
import unittest

from drawn import NO_DEEDS, NO_NUMBERS, drawn_deed, drawn_net, drawn_yard_deeds
from model import ModelCarrier, ModelYard, seen_of_model, seen_of_yard
from shutways.carriers import Carrier
from shutways.errors import NoDeed, NoFrame
from shutways.frames import part_of
from shutways.nets import make_net
from shutways.quiet import quiet_round, rounds_told
from shutways.ways import open_ways
from shutways.yards import Yard

# A ring 1 - 2 - 3 - 4 - 1, and a bridge 5 below 2. Settled, the tie 3 - 4 is shut.
RING = make_net([1, 2, 3, 4, 5], [(1, 2, 1), (2, 3, 1), (3, 4, 1), (4, 1, 1), (2, 5, 1)])
# A tree 0 - (1, 2), 1 - (5, 6), 2 - (3, 4), places not in the bridges' order.
TREE = make_net([0, 1, 2, 3, 4, 5, 6], [(2, 4, 1), (0, 2, 1), (1, 6, 1), (0, 1, 1), (2, 3, 1), (1, 5, 1)])


def settled_yard(net, greatest=40):
    yard = Yard(net, greatest)
    for k in range(rounds_told(net, greatest)):
        quiet_round(yard)
    return yard


def settled_carrier(net, greatest=40):
    yard = settled_yard(net, greatest)
    return yard, Carrier(yard)


def tell(carrier, deeds):
    for deed in deeds:
        carrier.deed(deed)


def quiet_by(carrier, yard, rounds=40):
    """Quiet rounds, told to the carrier."""
    for k in range(rounds):
        tell(carrier, [("tick", bridge) for bridge, label in yard.labels()])
        tell(carrier, [("come", 0)] * len(yard.road()))


def arrive_all(carrier):
    while carrier.under_way():
        carrier.deed(("arrive", 0))


def came_to_all(carrier, net):
    return {number: carrier.came(number) for number in net[0]}


def seen_of_carrier(carrier, yard):
    return (seen_of_yard(yard), carrier.under_way(), came_to_all(carrier, yard.net()))


class SendTest(unittest.TestCase):

    def test_numbers_of_each_carrier_by_itself(self):
        yard, carrier = settled_carrier(TREE)
        other = Carrier(settled_yard(TREE))
        self.assertEqual([carrier.send(bridge) for bridge in (3, 0, 3)], [0, 1, 2])
        self.assertEqual([other.send(bridge) for bridge in (6, 6)], [0, 1])
        self.assertEqual(carrier.send(1), 3)
        self.assertIs(type(carrier.send(1)), int)

    def test_a_refused_one_uses_no_number(self):
        yard, carrier = settled_carrier(TREE)
        self.assertEqual(carrier.send(2), 0)
        for thing in (7, None, True):
            with self.assertRaises(NoFrame):
                carrier.send(thing)
        self.assertEqual(carrier.send(2), 1)

    def test_of_no_bridge_that_is_up(self):
        yard, carrier = settled_carrier(TREE)
        carrier.deed(("fall", "bridge", 4))
        carrier.send(0)
        seen = seen_of_carrier(carrier, yard)
        for thing in NO_NUMBERS + (4, 7, 999, -1, 10 ** 50, "0", [0], {0: 0}, (0,)):
            with self.assertRaises(NoFrame, msg=repr(thing)):
                carrier.send(thing)
        self.assertEqual(seen_of_carrier(carrier, yard), seen)
        carrier.deed(("back", "bridge", 4))
        self.assertEqual(carrier.send(4), 1)
        self.assertEqual(carrier.came(4), [(1, None)])

    def test_had_at_once_and_on_its_way_by_places(self):
        yard, carrier = settled_carrier(TREE)
        stamps = dict(yard.stamps())
        carrier.send(0)
        self.assertEqual(carrier.came(0), [(0, None)])
        self.assertEqual(
            carrier.under_way(), [(0, 2, 1, 0, stamps[0], stamps[2]), (0, 1, 3, 0, stamps[0], stamps[1])])
        carrier.send(2)
        self.assertEqual(carrier.under_way()[2:], [
            (2, 4, 0, 1, stamps[2], stamps[4]), (2, 0, 1, 1, stamps[2], stamps[0]), (2, 3, 4, 1, stamps[2], stamps[3])])
        self.assertEqual(carrier.came(2), [(1, None)])
        self.assertNotEqual(stamps[0], stamps[2])

    def test_without_open_ways(self):
        carrier = Carrier(Yard(TREE, 40))
        self.assertEqual(carrier.send(0), 0)
        self.assertEqual(carrier.under_way(), [])
        self.assertEqual(carrier.came(0), [(0, None)])

    def test_one_bridge(self):
        carrier = Carrier(Yard(make_net([9], []), 4))
        self.assertEqual([carrier.send(9), carrier.send(9)], [0, 1])
        self.assertEqual(carrier.came(9), [(0, None), (1, None)])
        self.assertEqual(carrier.under_way(), [])

    def test_not_over_a_way_of_which_one_end_is_open(self):
        yard = Yard(make_net([1, 2], [(1, 2, 5)]), 20)
        carrier = Carrier(yard)
        tell(carrier, (("tick", 1), ("come", 0), ("tick", 2), ("come", 0)))
        self.assertEqual(yard.ends(0), ("parent", "shut"))
        carrier.send(1)
        self.assertEqual(carrier.under_way(), [])
        tell(carrier, (("tick", 1), ("come", 0)))
        carrier.send(1)
        self.assertEqual(carrier.under_way(), [(1, 2, 0, 1, (0, 0), (0, 1))])

    def test_of_a_yard_that_was_at_work_ahead(self):
        yard = settled_yard(RING)
        for deed in (("fall", "bridge", 5), ("fall", "tie", 3), ("back", "bridge", 5)):
            yard.deed(deed)
        carrier = Carrier(yard)
        self.assertEqual(carrier.under_way(), [])
        self.assertEqual(came_to_all(carrier, RING), {1: [], 2: [], 3: [], 4: [], 5: []})
        with self.assertRaises(NoDeed):
            carrier.deed(("fall", "tie", 3))
        carrier.send(5)
        self.assertEqual(carrier.under_way(), [])
        carrier.send(2)
        self.assertEqual([frame[:4] for frame in carrier.under_way()], [(2, 1, 0, 1), (2, 3, 1, 1)])
        carrier.deed(("back", "tie", 3))
        self.assertEqual(yard.down(), ((), ()))


class ArriveTest(unittest.TestCase):

    def test_it_is_sent_on_but_where_it_came_from(self):
        yard, carrier = settled_carrier(TREE)
        carrier.send(4)
        self.assertEqual([frame[:4] for frame in carrier.under_way()], [(4, 2, 0, 0)])
        carrier.deed(("arrive", 0))
        self.assertEqual(carrier.came(2), [(0, 0)])
        stamps = dict(yard.stamps())
        self.assertEqual(
            carrier.under_way(), [(2, 0, 1, 0, stamps[2], stamps[0]), (2, 3, 4, 0, stamps[2], stamps[3])])
        carrier.deed(("arrive", 1))
        self.assertEqual(carrier.came(3), [(0, 4)])
        self.assertEqual([frame[:4] for frame in carrier.under_way()], [(2, 0, 1, 0)])
        carrier.deed(("arrive", 0))
        self.assertEqual([frame[:4] for frame in carrier.under_way()], [(0, 1, 3, 0)])

    def test_at_the_lines_end(self):
        yard, carrier = settled_carrier(TREE)
        carrier.send(0)
        carrier.send(3)
        self.assertEqual([frame[:4] for frame in carrier.under_way()], [(0, 2, 1, 0), (0, 1, 3, 0), (3, 2, 4, 1)])
        carrier.deed(("arrive", 1))
        self.assertEqual(
            [frame[:4] for frame in carrier.under_way()], [(0, 2, 1, 0), (3, 2, 4, 1), (1, 6, 2, 0), (1, 5, 5, 0)])
        carrier.deed(("arrive", 1))
        self.assertEqual(
            [frame[:4] for frame in carrier.under_way()],
            [(0, 2, 1, 0), (1, 6, 2, 0), (1, 5, 5, 0), (2, 4, 0, 1), (2, 0, 1, 1)])
        self.assertEqual(carrier.came(2), [(1, 4)])

    def test_deeds_tell_nothing(self):
        yard, carrier = settled_carrier(TREE)
        carrier.send(0)
        for deed in (("tick", 0), ("come", 0), ("lost", 0), ("arrive", 0), ("drop", 0), ("fall", "tie", 0)):
            self.assertIsNone(carrier.deed(deed))

    def test_drop(self):
        yard, carrier = settled_carrier(TREE)
        carrier.send(0)
        ahead = carrier.under_way()
        carrier.deed(("drop", 0))
        self.assertEqual(carrier.under_way(), ahead[1:])
        self.assertEqual(carrier.came(2), [])
        carrier.deed(("drop", 0))
        self.assertEqual(carrier.under_way(), [])
        self.assertEqual(came_to_all(carrier, TREE), {0: [(0, None)], 1: [], 2: [], 3: [], 4: [], 5: [], 6: []})

    def test_gone_where_the_tie_is_no_open_way_now(self):
        for fall in (("fall", "tie", 1), ("fall", "bridge", 2), ("fall", "bridge", 0)):
            yard, carrier = settled_carrier(TREE)
            carrier.send(0)
            carrier.deed(fall)
            self.assertEqual(len(carrier.under_way()), 2)
            carrier.deed(("arrive", 0))
            self.assertEqual(carrier.came(2), [])
            self.assertEqual([frame[:4] for frame in carrier.under_way()], [(0, 1, 3, 0)])

    def test_gone_where_one_end_is_shut_though_the_stamps_are_the_same(self):
        yard, carrier = settled_carrier(TREE)
        stamps = yard.stamps()
        carrier.send(0)
        tell(carrier, (("fall", "tie", 1), ("back", "tie", 1)))
        self.assertEqual(yard.stamps(), stamps)
        self.assertEqual(yard.ends(1), ("shut", "shut"))
        carrier.deed(("arrive", 0))
        self.assertEqual(carrier.came(2), [])

    def test_comes_where_the_way_is_open_again_with_the_same_stamps(self):
        yard, carrier = settled_carrier(TREE)
        stamps = yard.stamps()
        carrier.send(0)
        tell(carrier, (("fall", "tie", 1), ("back", "tie", 1)))
        for bridge in (0, 2, 0):
            carrier.deed(("tick", bridge))
            tell(carrier, [("come", 0)] * len(yard.road()))
        self.assertEqual(yard.stamps(), stamps)
        self.assertIn((1, 2, 0), open_ways(yard))
        carrier.deed(("arrive", 0))
        self.assertEqual(carrier.came(2), [(0, 1)])

    def gone_behind_a_new_life(self, start, goal, fallen):
        """What was sent over the tie 1 (0 - 2) is gone, though that is an open way again."""
        yard, carrier = settled_carrier(TREE)
        carrier.send(start)
        place = [frame[2] for frame in carrier.under_way()].index(1)
        tell(carrier, (("fall", "bridge", fallen), ("back", "bridge", fallen)))
        quiet_by(carrier, yard, 70)
        self.assertIn((1, 2, 0), open_ways(yard))
        frame = carrier.under_way()[place]
        self.assertEqual(frame[:4], (start, goal, 1, 0))
        line = carrier.under_way()
        carrier.deed(("arrive", place))
        self.assertEqual(carrier.came(goal), [])
        self.assertEqual(carrier.under_way(), line[:place] + line[place + 1:])
        return [frame[4] == yard.bridge(start).stamp(), frame[5] == yard.bridge(goal).stamp()]

    def test_gone_where_a_stamp_is_another_one(self):
        self.assertEqual(self.gone_behind_a_new_life(0, 2, 2), [True, False])
        self.assertEqual(self.gone_behind_a_new_life(2, 0, 2), [False, True])
        self.assertEqual(self.gone_behind_a_new_life(0, 2, 0), [False, False])

    def test_one_that_had_it_already_has_it_again_and_sends_it_on(self):
        yard, carrier = settled_carrier(RING)
        carrier.send(1)
        self.assertEqual([frame[:4] for frame in carrier.under_way()], [(1, 2, 0, 0), (1, 4, 3, 0)])
        carrier.deed(("arrive", 0))
        self.assertEqual([frame[:4] for frame in carrier.under_way()], [(1, 4, 3, 0), (2, 3, 1, 0), (2, 5, 4, 0)])
        tell(carrier, (("drop", 1), ("arrive", 1), ("fall", "tie", 0)))
        quiet_by(carrier, yard)
        self.assertEqual([way[0] for way in open_ways(yard)], [1, 2, 3, 4])
        self.assertEqual([frame[:4] for frame in carrier.under_way()], [(1, 4, 3, 0)])
        arrive_all(carrier)
        self.assertEqual(came_to_all(carrier, RING), {
            1: [(0, None)], 2: [(0, 0), (0, 1)], 3: [(0, 2)], 4: [(0, 3)], 5: [(0, 4), (0, 4)]})

    def test_over_the_ways_of_the_moment_when_it_comes(self):
        yard, carrier = settled_carrier(TREE)
        carrier.send(0)
        carrier.deed(("fall", "bridge", 6))
        carrier.deed(("arrive", 1))
        self.assertEqual([frame[:4] for frame in carrier.under_way()], [(0, 2, 1, 0), (1, 5, 5, 0)])


class RefusedTest(unittest.TestCase):

    def setUp(self):
        self.yard, self.carrier = settled_carrier(TREE)
        self.carrier.send(0)
        self.carrier.send(1)
        tell(self.carrier, (("tick", 0), ("fall", "bridge", 4), ("fall", "tie", 2)))
        self.assertEqual(len(self.carrier.under_way()), 5)
        self.seen = seen_of_carrier(self.carrier, self.yard)

    def refused(self, some):
        with self.assertRaises(NoDeed, msg=repr(some)[:200]):
            self.carrier.deed(some)

    def tearDown(self):
        self.assertEqual(seen_of_carrier(self.carrier, self.yard), self.seen)

    def test_no_deed_at_all(self):
        for some in NO_DEEDS:
            self.refused(some)

    def test_of_a_yard_that_cannot_be_done(self):
        for some in (
                ("tick", 4), ("tick", 7), ("come", 2), ("lost", 2), ("fall", "bridge", 4), ("back", "bridge", 0),
                ("fall", "tie", 2), ("back", "tie", 0), ("fall", "tie", 6), ("back", "bridge", 7)):
            self.refused(some)

    def test_places_beyond_the_line(self):
        for word in ("arrive", "drop"):
            for place in (-1, -5, -6, 5, 6, 100, 10 ** 50, -10 ** 50):
                self.refused((word, place))

    def test_things_in_a_places_place(self):
        for word in ("arrive", "drop"):
            for thing in NO_NUMBERS:
                self.refused((word, thing))

    def test_other_forms(self):
        for word in ("arrive", "drop"):
            for some in (
                    word, (word,), [word, 0], (word, 0, 0), (word, "tie", 0), (word, "0"), (0, word), {word: 0},
                    ((word, 0),), (word.upper(), 0), (word + " ", 0), ([word], 0), ("fall", word, 0), f"{word} 0"):
                self.refused(some)

    def test_an_empty_line(self):
        carrier = Carrier(Yard(TREE, 40))
        for some in (("arrive", 0), ("drop", 0), ("arrive", -1), ("drop", -1)):
            with self.assertRaises(NoDeed):
                carrier.deed(some)


class CameTest(unittest.TestCase):

    def test_of_anything_else(self):
        yard, carrier = settled_carrier(TREE)
        carrier.send(0)
        carrier.send(1)
        for thing in NO_NUMBERS + (7, 999, -1, 10 ** 50, "0", [0], {}, (1,)):
            self.assertEqual(carrier.came(thing), [], repr(thing))

    def test_in_order(self):
        yard, carrier = settled_carrier(TREE)
        carrier.send(2)
        carrier.send(0)
        carrier.send(2)
        while carrier.under_way():
            carrier.deed(("arrive", len(carrier.under_way()) - 1))
        self.assertEqual(carrier.came(2), [(0, None), (2, None), (1, 1)])
        self.assertEqual(carrier.came(0), [(1, None), (2, 1), (0, 1)])

    def test_a_bridge_that_falls_keeps_it(self):
        yard, carrier = settled_carrier(TREE)
        carrier.send(4)
        arrive_all(carrier)
        ahead = came_to_all(carrier, TREE)
        carrier.deed(("fall", "bridge", 2))
        self.assertEqual(came_to_all(carrier, TREE), ahead)
        carrier.deed(("back", "bridge", 2))
        self.assertEqual(came_to_all(carrier, TREE), ahead)
        carrier.send(2)
        self.assertEqual(carrier.came(2), [(0, 0), (1, None)])

    def test_frames_stay_on_the_line_whatever_falls(self):
        yard, carrier = settled_carrier(TREE)
        carrier.send(0)
        ahead = carrier.under_way()
        tell(carrier, [("fall", "bridge", number) for number in TREE[0]])
        tell(carrier, [("fall", "tie", place) for place in range(6)])
        self.assertEqual(carrier.under_way(), ahead)
        tell(carrier, [("arrive", 0), ("arrive", 0)])
        self.assertEqual(carrier.under_way(), [])
        self.assertEqual(carrier.came(2), [])

    def test_lists_told_are_the_askers_own(self):
        yard, carrier = settled_carrier(TREE)
        carrier.send(0)
        line, came = carrier.under_way(), carrier.came(0)
        kept = (list(line), list(came))
        self.assertIsNot(line, carrier.under_way())
        self.assertIsNot(came, carrier.came(0))
        self.assertIsNot(carrier.came(6), carrier.came(6))
        self.assertIsNot(carrier.came(77), carrier.came(77))
        carrier.send(0)
        carrier.deed(("arrive", 0))
        self.assertEqual((line, came), kept)
        now = seen_of_carrier(carrier, yard)
        for told in (carrier.under_way(), carrier.came(0), carrier.came(6), carrier.came(77)):
            self.assertIs(type(told), list)
            self.assertTrue(all(type(one) is tuple for one in told))
            told.clear()
            told.append(None)
        self.assertEqual(seen_of_carrier(carrier, yard), now)
        self.assertEqual(carrier.came(77), [])


class ManyMomentsTest(unittest.TestCase):

    def drawn_line_deed(self, chance, line):
        place = 0 if chance.random() < 0.5 else chance.randrange(len(line))
        return ("drop" if chance.random() < 0.1 else "arrive", place)

    def line_deed_or_send(self, chance, carrier, model):
        standing = sorted(model.yard.bridges)
        if model.line and chance.random() < 0.7:
            deed = self.drawn_line_deed(chance, model.line)
            carrier.deed(deed)
            model.deed(deed)
        elif standing:
            bridge = chance.choice(standing)
            self.assertEqual(carrier.send(bridge), model.send(bridge))

    def told_alike(self, carrier, yard, model):
        """How many times a bridge came to have a frame that it had already."""
        self.assertEqual(seen_of_yard(yard), seen_of_model(model.yard))
        twice = 0
        for number in yard.net()[0]:
            came = carrier.came(number)
            self.assertEqual(came, model.came(number))
            twice += len(came) - len({frame for frame, place in came})
        return twice

    def test_against_the_model(self):
        for seed in range(60):
            chance = random.Random(seed)
            net = drawn_net(chance)
            greatest = chance.choice((5, 20, 40, 200))
            yard, model = Yard(net, greatest), ModelYard(net, greatest)
            for deed in drawn_yard_deeds(chance, yard, chance.choice((0, 300)), 0):
                model.deed(deed)
            carrier, model = Carrier(yard), ModelCarrier(model)
            for turn in range(300):
                if chance.random() < 0.4:
                    self.line_deed_or_send(chance, carrier, model)
                else:
                    deed = drawn_deed(chance, net, yard.down(), len(yard.road()), (0, 0.01, 0.1)[seed % 3])
                    carrier.deed(deed)
                    model.deed(deed)
                self.assertEqual(carrier.under_way(), model.line)
            self.told_alike(carrier, yard, model)

    def test_against_the_model_where_ways_turn_while_frames_wait(self):
        """Ties of the ring fall and come back, with a few quiet rounds between."""
        twice = 0
        for seed in range(60):
            chance = random.Random(seed)
            yard, model = Yard(RING, 40), ModelYard(RING, 40)
            carrier, model = Carrier(yard), ModelCarrier(model)
            for turn in range(200):
                if chance.random() < 0.7:
                    self.line_deed_or_send(chance, carrier, model)
                else:
                    deed = ("fall", "tie", chance.randrange(4))
                    if yard.down()[1]:
                        deed = ("back", "tie", yard.down()[1][0])
                    carrier.deed(deed)
                    model.deed(deed)
                    rounds = chance.randint(2, 12)
                    quiet_by(carrier, yard, rounds)
                    for k in range(rounds):
                        model.yard.quiet_round()
                self.assertEqual(carrier.under_way(), model.line)
            twice += self.told_alike(carrier, yard, model)
        self.assertGreater(twice, 2)

    def test_no_bridge_has_it_twice_while_the_stamps_stay(self):
        """No falls here; what is sent ahead of a stamp's turning isn't looked at behind it."""
        spread = 0
        for seed in range(60):
            chance = random.Random(seed)
            yard = Yard(drawn_net(chance), 40)
            carrier = Carrier(yard)
            sent = {}
            for turn in range(400):
                standing = [bridge for bridge, label in yard.labels()]
                if chance.random() < 0.05:
                    sent[carrier.send(chance.choice(standing))] = yard.stamps()
                elif carrier.under_way() and chance.random() < 0.3:
                    carrier.deed(self.drawn_line_deed(chance, carrier.under_way()))
                else:
                    carrier.deed(drawn_deed(chance, yard.net(), yard.down(), len(yard.road()), 0))
                sent = {number: stamps for number, stamps in sent.items() if stamps == yard.stamps()}
                came = [[frame for frame, place in carrier.came(bridge)] for bridge in standing]
                for number in sent:
                    self.assertLessEqual(max(row.count(number) for row in came), 1)
                    spread = max(spread, sum(row.count(number) for row in came))
        self.assertGreater(spread, 4)

    def test_where_all_arrives_from_the_front_all_of_the_part_has_it(self):
        longest = 0
        for seed in range(60):
            chance = random.Random(seed)
            yard = Yard(drawn_net(chance), 40)
            carrier = Carrier(yard)
            for turn in range(150):
                carrier.deed(drawn_deed(chance, yard.net(), yard.down(), len(yard.road()), (0, 0.02)[seed % 2]))
                standing = [bridge for bridge, label in yard.labels()]
                if standing and chance.random() < 0.3:
                    bridge = chance.choice(standing)
                    part = part_of(yard, bridge)
                    number = carrier.send(bridge)
                    arrive_all(carrier)
                    having = [
                        one for one in yard.net()[0] for frame, place in carrier.came(one) if frame == number]
                    self.assertEqual(having, part)
                    longest = max(longest, len(part))
        self.assertGreater(longest, 4)


if __name__ == "__main__":
    unittest.main()

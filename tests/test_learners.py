"""Learned places (points 29 to 31)."""

import random
import unittest

from drawn import NO_DEEDS, NO_NUMBERS, Liar, drawn_deed, drawn_net
from model import ModelLearner, ModelYard, seen_of_model, seen_of_yard
from shutways.errors import NoDeed, NoFrame
from shutways.frames import carried, part_of
from shutways.learners import Learner, lost_row
from shutways.nets import make_net
from shutways.quiet import quiet_round, rounds_told
from shutways.ways import open_ways
from shutways.yards import Yard

# A tree 0 - (1, 2), 1 - (5, 6), 2 - (3, 4), places not in the bridges' order,
# and a tie 3 - 6 that no way needs while all is up.
NET = make_net(
    [0, 1, 2, 3, 4, 5, 6],
    [(2, 4, 1), (0, 2, 1), (1, 6, 1), (0, 1, 1), (3, 6, 9), (2, 3, 1), (1, 5, 1)])
STATIONS = [("d", 4), ("root", 0), ("c", 3), ("e", 5), ("f", 6), ("fellow", 6), ("b", 2)]
NAMES = ("a", "b", "cd", "xyz", "north", "abcdef", "z", "zz", "m")


def settled_yard(net=NET, greatest=40):
    yard = Yard(net, greatest)
    for k in range(rounds_told(net, greatest)):
        quiet_round(yard)
    return yard


def settled_learner(whole=False, stations=STATIONS):
    yard = settled_yard()
    return yard, Learner(yard, stations, whole)


def notes_of_all(learner):
    return {number: learner.notes(number) for number in NET[0] if learner.notes(number)}


def full_learner(whole):
    """One in which each bridge has noted each station that isn't its own."""
    yard, learner = settled_learner(whole)
    for name, bridge in STATIONS:
        for other, home in STATIONS:
            learner.frame(name, other)
    for number in NET[0]:
        noted = [name for name, place in learner.notes(number)]
        assert noted == sorted(name for name, bridge in STATIONS if bridge != number)
    return yard, learner


def having_notes(learner):
    return [number for number in NET[0] if learner.notes(number)]


def ends_of(yard):
    return [yard.ends(place) for place in range(len(yard.net()[1]))]


class FrameTest(unittest.TestCase):

    def test_without_notes_it_goes_over_all_open_ways(self):
        yard, learner = settled_learner()
        told = learner.frame("d", "f")
        self.assertEqual(told, [(4, None), (2, 0), (0, 1), (3, 5), (1, 3), (6, 2), (5, 6)])
        self.assertEqual(told, carried(yard, 4))

    def test_at_the_receivers_bridge_it_goes_no_further(self):
        yard, learner = settled_learner()
        self.assertEqual(learner.frame("d", "b"), [(4, None), (2, 0)])
        yard, learner = settled_learner()
        self.assertEqual(learner.frame("f", "root"), [(6, None), (1, 2), (0, 3), (5, 6)])

    def test_what_is_noted(self):
        yard, learner = settled_learner()
        learner.frame("d", "f")
        self.assertEqual(notes_of_all(learner), {
            0: [("d", 1)], 1: [("d", 3)], 2: [("d", 0)], 3: [("d", 5)], 5: [("d", 6)], 6: [("d", 2)]})
        learner.frame("root", "b")
        self.assertEqual(notes_of_all(learner), {
            0: [("d", 1)], 1: [("d", 3), ("root", 3)], 2: [("d", 0), ("root", 1)], 3: [("d", 5)],
            5: [("d", 6), ("root", 6)], 6: [("d", 2), ("root", 2)]})

    def test_where_the_receiver_is_noted_over_that_tie_alone(self):
        yard, learner = settled_learner()
        learner.frame("d", "f")
        self.assertEqual(learner.frame("f", "d"), [(6, None), (1, 2), (0, 3), (2, 1), (4, 0)])
        self.assertEqual(learner.frame("fellow", "d"), [(6, None), (1, 2), (0, 3), (2, 1), (4, 0)])
        self.assertEqual(learner.frame("d", "f"), [(4, None), (2, 0), (0, 1), (1, 3), (6, 2)])
        self.assertEqual(learner.frame("e", "d"), [(5, None), (1, 6), (0, 3), (2, 1), (4, 0)])

    def test_by_the_senders_name_alone(self):
        yard, learner = settled_learner()
        learner.frame("f", "d")
        # The fellow has the same bridge, and yet its name isn't noted.
        self.assertEqual(learner.frame("d", "f"), [(4, None), (2, 0), (0, 1), (1, 3), (6, 2)])
        self.assertEqual(learner.frame("d", "fellow"), carried(yard, 4))

    def test_half_by_notes(self):
        yard, learner = settled_learner()
        learner.frame("d", "b")
        self.assertEqual(notes_of_all(learner), {2: [("d", 0)]})
        self.assertEqual(
            learner.frame("f", "d"), [(6, None), (1, 2), (0, 3), (5, 6), (2, 1), (4, 0)])

    def test_of_its_own_stations_nothing(self):
        yard, learner = full_learner(False)
        for name, bridge in STATIONS:
            self.assertNotIn(name, [noted for noted, place in learner.notes(bridge)])
            for number in NET[0]:
                if number != bridge:
                    self.assertIn(name, [noted for noted, place in learner.notes(number)])

    def test_noted_ahead_of_sending_on_also_at_the_receivers_bridge(self):
        yard, learner = settled_learner()
        learner.frame("d", "b")
        self.assertEqual(learner.notes(2), [("d", 0)])

    def test_two_of_one_bridge_and_to_itself(self):
        yard, learner = settled_learner()
        for one, other in (("f", "fellow"), ("fellow", "f"), ("f", "f"), ("root", "root")):
            self.assertEqual(learner.frame(one, other), [(0 if one == "root" else 6, None)])
        self.assertEqual(notes_of_all(learner), {})

    def test_where_the_receivers_bridge_is_down(self):
        yard, learner = settled_learner()
        learner.deed(("fall", "bridge", 5))
        told = learner.frame("d", "e")
        self.assertEqual(told, [(4, None), (2, 0), (0, 1), (3, 5), (1, 3), (6, 2)])
        self.assertEqual(learner.notes(6), [("d", 2)])

    def test_a_noted_tie_that_is_no_open_way(self):
        yard, learner = settled_learner()
        learner.frame("d", "b")
        learner.frame("d", "root")
        # 2 alone has ticks, and nothing comes: when the letter of 0 is too old
        # its end is shut, but 0 is parent still and keeps its note.
        while yard.ends(1)[1] == "child":
            learner.deed(("tick", 2))
        self.assertEqual(yard.ends(1), ("parent", "shut"))
        notes = learner.notes(0)
        self.assertEqual(notes, [("d", 1)])
        self.assertEqual(len(carried(yard, 0)), 4)
        self.assertEqual(learner.frame("root", "d"), [(0, None)])
        self.assertEqual(learner.notes(0), notes)

    def test_a_noted_tie_over_which_it_came(self):
        # 1 has noted "far" over the tie to 2; the note stays where ways turn
        # far off, so a frame that comes from there goes nowhere.
        net, greatest, stations, row = lost_row()
        yard = Yard(net, greatest)
        learner = Learner(yard, stations + [("two", 2)], False)
        for deed in row[:-1]:
            learner.frame(deed[1], deed[2]) if deed[0] == "frame" else learner.deed(deed)
        self.assertEqual(learner.notes(1), [("far", 0)])
        self.assertIn(3, part_of(yard, 2))
        self.assertEqual(learner.frame("two", "far"), [(2, None), (1, 0)])
        self.assertEqual(learner.notes(1), [("far", 0), ("two", 0)])

    def test_in_the_place_of_an_elder_note(self):
        net = make_net([1, 2, 3, 4], [(1, 2, 1), (2, 3, 1), (3, 4, 1), (4, 1, 1)])
        yard = settled_yard(net)
        learner = Learner(yard, [("one", 1), ("three", 3)], False)
        learner.frame("three", "one")
        self.assertEqual(learner.notes(1), [("three", 0)])
        learner.deed(("fall", "tie", 1))
        for k in range(60):
            for number in net[0]:
                learner.deed(("tick", number))
            while yard.road():
                learner.deed(("come", 0))
        self.assertEqual(learner.notes(1), [("three", 0)])
        self.assertEqual(learner.frame("three", "one"), [(3, None), (4, 2), (1, 3)])
        self.assertEqual(learner.notes(1), [("three", 3)])

    def test_one_station_alone(self):
        yard, learner = settled_learner(stations=[("a", 3)])
        self.assertEqual(learner.frame("a", "a"), [(3, None)])
        with self.assertRaises(NoFrame):
            learner.frame("a", "b")

    def test_nine_stations_in_any_order(self):
        chance = random.Random(5)
        stations = [(name, chance.choice(NET[0])) for name in NAMES]
        rows = []
        for turn in range(4):
            yard, learner = settled_learner(stations=stations)
            row = [learner.frame(one, other) for one in NAMES for other in NAMES]
            rows.append((row, notes_of_all(learner)))
            stations = chance.sample(stations, len(stations))
        self.assertEqual(rows, [rows[0]] * 4)

    def test_the_list_of_stations_is_not_kept(self):
        stations = list(STATIONS)
        yard, learner = settled_learner(stations=stations)
        self.assertEqual(stations, STATIONS)
        stations.append(("new", 1))
        stations[0] = ("d", 5)
        self.assertEqual(learner.frame("d", "b"), [(4, None), (2, 0)])
        with self.assertRaises(NoFrame):
            learner.frame("d", "new")
        stations.clear()
        self.assertEqual(learner.frame("d", "b"), [(4, None), (2, 0)])

    def test_looking_changes_nothing_of_the_yard(self):
        yard, learner = settled_learner()
        seen = seen_of_yard(yard)
        learner.frame("d", "f")
        learner.notes(4)
        self.assertEqual(seen_of_yard(yard), seen)


class NoFrameTest(unittest.TestCase):

    def refused(self, learner, one, other):
        ahead = notes_of_all(learner)
        with self.assertRaises(NoFrame, msg=repr((one, other))):
            learner.frame(one, other)
        self.assertEqual(notes_of_all(learner), ahead)

    def test_of_no_stations_name(self):
        yard, learner = settled_learner()
        learner.frame("c", "root")
        for thing in NO_NUMBERS + ("", "D", "dd", " d", "d ", "d\n", 4, 0, ["d"], {"d": 4}, ("d",), ("d", 4), b"d"):
            self.refused(learner, thing, "d")
            self.refused(learner, "d", thing)
            self.refused(learner, thing, thing)
        self.refused(learner, Liar(), Liar())

    def test_where_the_senders_bridge_is_down(self):
        yard, learner = settled_learner()
        learner.frame("c", "root")
        learner.deed(("fall", "bridge", 6))
        for other, bridge in STATIONS:
            self.refused(learner, "f", other)
            self.refused(learner, "fellow", other)
        self.assertEqual(learner.frame("e", "f")[0], (5, None))
        learner.deed(("back", "bridge", 6))
        self.assertEqual(learner.frame("f", "e"), [(6, None)])

    def test_of_a_yard_with_a_bridge_down_from_the_first(self):
        yard = settled_yard()
        yard.deed(("fall", "bridge", 4))
        learner = Learner(yard, STATIONS, True)
        self.refused(learner, "d", "f")
        self.assertEqual(learner.frame("f", "d"), carried(yard, 6))


class LettingGoTest(unittest.TestCase):

    def test_near_letting_go(self):
        yard, learner = full_learner(False)
        learner.deed(("fall", "tie", 5))
        self.assertEqual(having_notes(learner), [0, 1, 4, 5, 6])
        yard, learner = full_learner(False)
        learner.deed(("fall", "tie", 3))
        self.assertEqual(having_notes(learner), [2, 3, 4, 5, 6])

    def test_whole_letting_go(self):
        # Behind the fall of the tie 2 - 3 bridge 3 is alone, 2 with the rest.
        yard, learner = full_learner(True)
        learner.deed(("fall", "tie", 5))
        self.assertEqual(having_notes(learner), [])
        yard, learner = full_learner(True)
        learner.deed(("fall", "bridge", 1))
        self.assertEqual(having_notes(learner), [])

    def test_whole_letting_go_by_the_parts_behind_the_deed(self):
        # 2 alone has ticks: when the letters of 3 and 4 are too old its ends
        # there are shut, and what lies beyond them keeps its notes.
        for whole, left in ((False, [0, 1, 3, 4, 5, 6]), (True, [3, 4])):
            yard, learner = full_learner(whole)
            while yard.ends(0) == ("parent", "child"):
                self.assertEqual(having_notes(learner), list(NET[0]))
                learner.deed(("tick", 2))
            self.assertEqual(yard.ends(0), ("shut", "child"))
            self.assertEqual(part_of(yard, 2), [0, 1, 2, 5, 6])
            self.assertEqual(having_notes(learner), left)

    def test_a_deed_that_turns_no_end(self):
        for whole in (False, True):
            yard, learner = full_learner(whole)
            ahead = notes_of_all(learner)
            for deed in (("tick", 0), ("come", 0), ("lost", 0), ("fall", "tie", 4), ("back", "tie", 4), ("tick", 5)):
                ends = ends_of(yard)
                self.assertIsNone(learner.deed(deed))
                if deed[1] != "tie":
                    self.assertEqual(ends_of(yard), ends)
                self.assertEqual(notes_of_all(learner), ahead)

    def test_shut_and_down_are_both_neither(self):
        yard, learner = full_learner(False)
        ahead = notes_of_all(learner)
        self.assertEqual(yard.ends(4), ("shut", "shut"))
        learner.deed(("fall", "tie", 4))
        self.assertEqual(yard.ends(4), ("down", "down"))
        self.assertEqual(notes_of_all(learner), ahead)

    def test_an_end_that_opens_turns_too(self):
        # 2 comes to be a parent by a letter that rests on its stamp, ahead of
        # the other end's being open.
        net = make_net([1, 2, 3], [(1, 2, 1), (2, 3, 1)])
        for whole in (False, True):
            yard = settled_yard(net)
            learner = Learner(yard, [("one", 1), ("two", 2)], whole)
            for deed in (
                    ("fall", "bridge", 3), ("back", "bridge", 3), ("tick", 2), ("come", 1), ("tick", 3), ("lost", 0)):
                learner.deed(deed)
            learner.frame("one", "two")
            learner.frame("two", "one")
            self.assertEqual([learner.notes(1), learner.notes(2)], [[("two", 0)], [("one", 0)]])
            self.assertEqual(yard.ends(1), ("shut", "shut"))
            learner.deed(("come", 0))
            self.assertEqual(yard.ends(1), ("parent", "shut"))
            self.assertEqual([learner.notes(1), learner.notes(2)], [[] if whole else [("two", 0)], []])

    def test_a_bridge_that_falls_or_comes_back(self):
        for whole in (False, True):
            yard, learner = full_learner(whole)
            learner.deed(("fall", "bridge", 5))
            self.assertEqual(learner.notes(5), [])
            learner.deed(("back", "bridge", 5))
            self.assertEqual(learner.notes(5), [])

    def test_a_refused_deed_changes_nothing(self):
        for whole in (False, True):
            yard, learner = full_learner(whole)
            for deed in (("tick", 0), ("fall", "tie", 4)):
                learner.deed(deed)
            seen, ahead = seen_of_yard(yard), notes_of_all(learner)
            for some in NO_DEEDS + (
                    ("tick", 7), ("come", 2), ("lost", 5), ("fall", "tie", 4), ("back", "bridge", 0), ("back", "tie", 0),
                    ("fall", "bridge", 7), ("fall", "tie", 7), ("arrive", 0), ("drop", 0)):
                with self.assertRaises(NoDeed, msg=repr(some)):
                    learner.deed(some)
            self.assertEqual((seen_of_yard(yard), notes_of_all(learner)), (seen, ahead))


class NotesTest(unittest.TestCase):

    def test_rising(self):
        yard, learner = full_learner(False)
        self.assertEqual(
            learner.notes(1), [("b", 3), ("c", 3), ("d", 3), ("e", 6), ("f", 2), ("fellow", 2), ("root", 3)])

    def test_of_none_that_is_up(self):
        yard, learner = full_learner(False)
        learner.deed(("fall", "bridge", 6))
        for thing in NO_NUMBERS + (6, 7, 999, -1, 10 ** 50, "0", [0], (0,)):
            self.assertEqual(learner.notes(thing), [], repr(thing))

    def test_lists_told_are_the_askers_own(self):
        yard, learner = settled_learner()
        told = learner.frame("d", "f")
        notes = learner.notes(0)
        kept = (list(told), list(notes))
        self.assertIsNot(notes, learner.notes(0))
        self.assertIsNot(learner.notes(77), learner.notes(77))
        learner.frame("f", "d")
        learner.deed(("fall", "tie", 1))
        self.assertEqual((told, notes), kept)
        yard, learner = full_learner(False)
        ahead = notes_of_all(learner)
        for told in (learner.notes(0), learner.notes(77), learner.frame("d", "f"), learner.frame("d", "d")):
            self.assertIs(type(told), list)
            self.assertTrue(all(type(one) is tuple for one in told))
            told.clear()
        self.assertEqual(notes_of_all(learner), ahead)
        self.assertEqual(learner.frame("d", "d"), [(4, None)])


class ManyMomentsTest(unittest.TestCase):

    def gone_through(self, seed, many, whole):
        """How many frames came, and how many didn't though they could have."""
        chance = random.Random(seed)
        net = drawn_net(chance)
        greatest = chance.choice((6, 40, 40))
        stations = [(name, chance.choice(net[0])) for name in NAMES[:chance.randint(1, 9)]]
        yard, model = Yard(net, greatest), ModelYard(net, greatest)
        learner, model = Learner(yard, stations, whole), ModelLearner(model, stations, whole)
        came, lost = 0, 0
        for turn in range(many):
            if chance.random() < 0.3:
                one, other = chance.choice(stations), chance.choice(stations)
                if yard.bridge(one[1]) is None:
                    with self.assertRaises(NoFrame):
                        learner.frame(one[0], other[0])
                    continue
                told = learner.frame(one[0], other[0])
                self.assertEqual(told, model.frame(one[0], other[0]))
                if other[1] in part_of(yard, one[1]) and other[1] != one[1]:
                    came += other[1] in [bridge for bridge, place in told]
                    lost += other[1] not in [bridge for bridge, place in told]
            else:
                deed = drawn_deed(chance, net, yard.down(), len(yard.road()), (0, 0.01, 0.05)[seed % 3])
                learner.deed(deed)
                model.deed(deed)
            for number in net[0]:
                self.assertEqual(learner.notes(number), model.notes(number))
        self.assertEqual(seen_of_yard(yard), seen_of_model(model.yard))
        return came, lost

    def test_with_whole_letting_go_a_frame_always_comes(self):
        came = 0
        for seed in range(60):
            counts = self.gone_through(seed, 400, True)
            self.assertEqual(counts[1], 0, seed)
            came += counts[0]
        self.assertGreater(came, 300)

    def test_with_near_letting_go(self):
        for seed in range(60):
            self.gone_through(seed, 400, False)


class LostRowTest(unittest.TestCase):

    def last_frame(self, whole):
        net, greatest, stations, row = lost_row()
        yard = Yard(net, greatest)
        learner = Learner(yard, stations, whole)
        for some in row[:-1]:
            if some[0] == "frame":
                learner.frame(some[1], some[2])
            else:
                learner.deed(some)
        word, one, other = row[-1]
        self.assertEqual(word, "frame")
        homes = dict(stations)
        self.assertIn(homes[other], part_of(yard, homes[one]))
        self.assertGreater(len(open_ways(yard)), 0)
        return homes[other] in [bridge for bridge, place in learner.frame(one, other)]

    def test_with_near_letting_go_it_is_lost(self):
        self.assertIs(self.last_frame(False), False)

    def test_with_whole_letting_go_it_comes(self):
        self.assertIs(self.last_frame(True), True)

    def test_its_form(self):
        told = lost_row()
        self.assertIs(type(told), tuple)
        net, greatest, stations, row = told
        self.assertEqual(make_net(list(net[0]), list(net[1])), net)
        self.assertTrue(4 <= greatest <= 200)
        self.assertIs(type(stations), list)
        self.assertIs(type(row), list)
        for name, bridge in stations:
            self.assertRegex(name, r"\A[a-z]{1,6}\Z")
            self.assertIn(bridge, net[0])
        self.assertTrue(all(type(some) is tuple for some in row))

    def test_told_again_it_is_the_same(self):
        told, again = lost_row(), lost_row()
        self.assertEqual(told, again)
        self.assertIsNot(told[2], again[2])
        self.assertIsNot(told[3], again[3])
        told[2].clear()
        told[3].clear()
        self.assertEqual(lost_row(), again)


if __name__ == "__main__":
    unittest.main()

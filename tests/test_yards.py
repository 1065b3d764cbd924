"""Yards: deeds done and refused, and what can be looked at (points 15 to 17)."""

import itertools
import random
import unittest

from drawn import NO_NUMBERS, drawn_deed, drawn_net, drawn_yard_deeds
from model import ModelYard, seen_of_model, seen_of_yard
from shutways.bridges import Bridge
from shutways.errors import NoDeed
from shutways.nets import make_net
from shutways.yards import Yard

NET = make_net([1, 3, 7], [(1, 3, 5), (7, 3, 2), (1, 7, 4)])
WORDS = ("tick", "come", "lost", "fall", "back", "bridge", "tie")


def yard_of(deeds=(), net=NET, greatest=20):
    yard = Yard(net, greatest)
    for deed in deeds:
        yard.deed(deed)
    return yard


def first_letter(number):
    """What a new bridge of life 0 that has held nothing sends first."""
    return ((0, 0), (0, 0), number, 0, 0, None, None)


def settled_yard(net=NET, rounds=8):
    yard = yard_of(net=net)
    for k in range(rounds):
        for number in net[0]:
            yard.deed(("tick", number))
        while yard.road():
            yard.deed(("come", 0))
    return yard


class NewYardTest(unittest.TestCase):

    def test_what_it_was_made_of(self):
        yard = yard_of(greatest=33)
        self.assertEqual(yard.net(), NET)
        self.assertEqual(yard.greatest(), 33)
        yard.deed(("fall", "bridge", 1))
        self.assertEqual(yard.net(), NET)
        self.assertEqual(yard.greatest(), 33)

    def test_all_is_up_and_the_road_is_empty(self):
        yard = yard_of()
        self.assertEqual(yard.road(), [])
        self.assertEqual(yard.down(), ((), ()))
        self.assertEqual(yard.labels(), [(k, (k, 0, None, None)) for k in (1, 3, 7)])
        self.assertEqual(yard.stamps(), [(k, (0, 0)) for k in (1, 3, 7)])
        self.assertEqual([yard.ends(k) for k in range(3)], [("shut", "shut")] * 3)

    def test_bridges(self):
        yard = yard_of()
        for number in (1, 3, 7):
            self.assertIsInstance(yard.bridge(number), Bridge)
            self.assertIs(yard.bridge(number), yard.bridge(number))
            self.assertEqual(yard.bridge(number).label()[0], number)
        for number in (0, 2, 8, 999, -1):
            self.assertIsNone(yard.bridge(number))
        self.assertEqual([yard.bridge(3).end(k) for k in range(4)], ["shut", "shut", "down", "down"])

    def test_one_bridge(self):
        yard = yard_of([("tick", 0), ("tick", 0)], net=make_net([0], []), greatest=4)
        self.assertEqual(yard.road(), [])
        self.assertEqual(yard.labels(), [(0, (0, 0, None, None))])
        yard.deed(("fall", "bridge", 0))
        self.assertEqual((yard.labels(), yard.stamps(), yard.down()), ([], [], ((0,), ())))

    def test_two_yards_have_nothing_in_common(self):
        one, other = yard_of(), yard_of()
        one.deed(("tick", 1))
        one.deed(("fall", "tie", 0))
        one.deed(("fall", "bridge", 3))
        self.assertEqual(seen_of_yard(other), seen_of_yard(yard_of()))


class DeedsTest(unittest.TestCase):

    def test_a_deed_tells_nothing(self):
        yard = yard_of()
        deeds = [
            ("tick", 1), ("come", 0), ("lost", 0), ("fall", "tie", 0), ("fall", "bridge", 1),
            ("back", "tie", 0), ("back", "bridge", 1)]
        for deed in deeds:
            self.assertIsNone(yard.deed(deed))

    def test_tick(self):
        yard = yard_of([("tick", 3), ("tick", 1)])
        self.assertEqual(yard.road(), [
            (3, 1, 0, first_letter(3)), (3, 7, 1, first_letter(3)),
            (1, 3, 0, first_letter(1)), (1, 7, 2, first_letter(1))])

    def test_come(self):
        yard = yard_of([("tick", 3), ("tick", 1), ("come", 2)])
        self.assertEqual(yard.bridge(3).held(0), (first_letter(1), 0))
        self.assertEqual([letter[:3] for letter in yard.road()], [(3, 1, 0), (3, 7, 1), (1, 7, 2)])
        self.assertEqual(yard.labels()[1], (3, (3, 0, None, None)))
        yard.deed(("tick", 3))
        self.assertEqual(yard.labels()[1], (3, (1, 5, 0, (0, 0))))
        self.assertEqual(yard.stamps(), [(1, (0, 0)), (3, (0, 1)), (7, (0, 0))])
        self.assertEqual(yard.road()[3:], [
            (3, 1, 0, ((0, 1), (0, 1), 1, 5, 2, (0, 0), None)),
            (3, 7, 1, ((0, 1), (0, 1), 1, 5, 2, None, None))])

    def test_lost(self):
        yard = yard_of([("tick", 3), ("tick", 1), ("lost", 1)])
        self.assertEqual([letter[:3] for letter in yard.road()], [(3, 1, 0), (1, 3, 0), (1, 7, 2)])
        self.assertTrue(all(yard.bridge(k).held(place) is None for k in (1, 3, 7) for place in range(3)))
        yard.deed(("lost", 2))
        yard.deed(("lost", 0))
        self.assertEqual([letter[:3] for letter in yard.road()], [(1, 3, 0)])

    def test_two_ends_open(self):
        net = make_net([1, 2], [(1, 2, 5)])
        yard = yard_of(net=net)
        rows = [
            [("tick", 1), ("come", 0)], [("tick", 2)], [("come", 0)], [("tick", 1)], [("come", 0)]]
        seen = []
        for deeds in rows:
            for deed in deeds:
                yard.deed(deed)
            seen.append(yard.ends(0))
        self.assertEqual(seen, [
            ("shut", "shut"), ("shut", "shut"), ("parent", "shut"), ("parent", "shut"), ("parent", "child")])

    def test_ends_are_told_the_lesser_bridge_first(self):
        net = make_net([1, 2, 9], [(9, 1, 1), (9, 2, 1)])
        yard = settled_yard(net)
        self.assertEqual(yard.ends(0), ("parent", "child"))
        self.assertEqual(yard.ends(1), ("child", "parent"))

    def test_fall_of_a_bridge(self):
        yard = settled_yard()
        yard.deed(("fall", "bridge", 1))
        self.assertEqual(yard.down(), ((1,), ()))
        self.assertIsNone(yard.bridge(1))
        self.assertEqual([number for number, label in yard.labels()], [3, 7])
        self.assertEqual([number for number, stamp in yard.stamps()], [3, 7])
        self.assertEqual([yard.ends(k) for k in (0, 2)], [("down", "down")] * 2)
        self.assertNotIn("down", yard.ends(1))
        self.assertIsNone(yard.bridge(3).held(0))
        self.assertIsNotNone(yard.bridge(3).held(1))
        self.assertEqual(yard.labels()[0][1][:3], (1, 5, 0))

    def test_back_of_a_bridge(self):
        yard = settled_yard()
        elder = yard.bridge(1)
        for life in (1, 2, 3):
            yard.deed(("fall", "bridge", 1))
            yard.deed(("back", "bridge", 1))
            self.assertEqual(yard.stamps()[0], (1, (life, 0)))
            self.assertEqual(yard.labels()[0], (1, (1, 0, None, None)))
            self.assertEqual(yard.down(), ((), ()))
            self.assertEqual([yard.ends(k) for k in (0, 2)], [("shut", "shut")] * 2)
            yard.deed(("tick", 1))
            self.assertEqual(yard.road()[-1], (1, 7, 2, ((life, 0), (life, 0), 1, 0, 0, None, None)))
        self.assertIsNot(yard.bridge(1), elder)
        self.assertEqual([stamp[0] for number, stamp in yard.stamps()], [3, 0, 0])

    def test_back_where_a_neighbour_is_down(self):
        yard = yard_of([("fall", "bridge", 1), ("fall", "bridge", 3), ("back", "bridge", 1)])
        self.assertEqual([yard.ends(k) for k in range(3)], [("down", "down"), ("down", "down"), ("shut", "shut")])
        yard.deed(("tick", 1))
        self.assertEqual([letter[:3] for letter in yard.road()], [(1, 7, 2)])
        yard.deed(("back", "bridge", 3))
        self.assertEqual([yard.ends(k) for k in range(3)], [("shut", "shut")] * 3)
        yard.deed(("tick", 1))
        self.assertEqual([letter[:3] for letter in yard.road()], [(1, 7, 2), (1, 3, 0), (1, 7, 2)])

    def test_fall_and_back_of_a_tie(self):
        yard = settled_yard()
        yard.deed(("fall", "tie", 2))
        self.assertEqual(yard.down(), ((), (2,)))
        self.assertEqual(yard.ends(2), ("down", "down"))
        self.assertIsNone(yard.bridge(1).held(2))
        self.assertIsNone(yard.bridge(7).held(2))
        self.assertIsNotNone(yard.bridge(1).held(0))
        yard.deed(("tick", 1))
        self.assertEqual([letter[:3] for letter in yard.road()], [(1, 3, 0)])
        yard.deed(("back", "tie", 2))
        self.assertEqual((yard.down(), yard.ends(2)), (((), ()), ("shut", "shut")))
        self.assertEqual([stamp[0] for number, stamp in yard.stamps()], [0, 0, 0])

    def test_a_tie_whose_bridge_is_down_falls_and_comes_back_itself(self):
        yard = yard_of([("fall", "bridge", 1)])
        self.assertEqual(yard.down(), ((1,), ()))
        yard.deed(("fall", "tie", 0))
        self.assertEqual(yard.down(), ((1,), (0,)))
        yard.deed(("back", "bridge", 1))
        self.assertEqual([yard.ends(k) for k in (0, 2)], [("down", "down"), ("shut", "shut")])
        yard.deed(("fall", "bridge", 1))
        yard.deed(("back", "tie", 0))
        self.assertEqual((yard.down(), yard.ends(0)), (((1,), ()), ("down", "down")))
        yard.deed(("back", "bridge", 1))
        self.assertEqual(yard.ends(0), ("shut", "shut"))

    def test_down_is_told_rising(self):
        yard = yard_of([
            ("fall", "tie", 2), ("fall", "bridge", 7), ("fall", "tie", 0), ("fall", "bridge", 1)])
        self.assertEqual(yard.down(), ((1, 7), (0, 2)))
        self.assertEqual([type(part) for part in yard.down()], [tuple, tuple])

    def test_letters_stay_on_the_road_whatever_falls(self):
        yard = yard_of([("tick", 1), ("tick", 3)])
        road = yard.road()
        for deed in (
                ("fall", "tie", 0), ("fall", "bridge", 1), ("fall", "bridge", 3), ("back", "tie", 0),
                ("back", "bridge", 3), ("back", "bridge", 1)):
            yard.deed(deed)
            self.assertEqual(yard.road(), road)

    def test_letters_that_come_over_a_tie_that_is_down_are_lost(self):
        for ahead, back in (
                ([("fall", "tie", 0)], [("back", "tie", 0)]),
                ([("fall", "bridge", 1)], [("back", "bridge", 1)]),
                ([("fall", "bridge", 3)], [("back", "bridge", 3)])):
            yard = yard_of([("tick", 1)] + ahead)
            yard.deed(("come", 0))
            self.assertEqual([letter[:3] for letter in yard.road()], [(1, 7, 2)])
            for deed in back:
                yard.deed(deed)
            self.assertIsNone(yard.bridge(3).held(0))

    def test_letters_of_an_elder_life_still_come(self):
        yard = yard_of([("tick", 1), ("fall", "bridge", 1), ("back", "bridge", 1), ("come", 0)])
        self.assertEqual(yard.bridge(3).held(0), (first_letter(1), 0))
        yard = yard_of([
            ("tick", 1), ("fall", "bridge", 1), ("back", "bridge", 1), ("tick", 1), ("come", 2), ("come", 0)])
        self.assertEqual(yard.bridge(3).held(0)[0][0], (1, 0))

    def test_letters_to_a_bridge_that_came_back_are_heard(self):
        yard = yard_of([("tick", 1), ("fall", "bridge", 3), ("back", "bridge", 3), ("come", 0)])
        self.assertEqual(yard.bridge(3).held(0), (first_letter(1), 0))

    def test_the_greatest_age_goes_on_to_new_bridges(self):
        yard = yard_of(
            [("fall", "bridge", 3), ("back", "bridge", 3), ("tick", 1), ("come", 0)] + [("tick", 3)] * 4,
            greatest=5)
        self.assertIsNotNone(yard.bridge(3).held(0))
        yard.deed(("tick", 3))
        self.assertIsNone(yard.bridge(3).held(0))

    def test_ends_of_no_tie(self):
        # The document doesn't tell it: what isn't there is as what is down.
        for place in (3, -1, 99):
            self.assertEqual(yard_of().ends(place), ("down", "down"))


class RefusedTest(unittest.TestCase):

    def setUp(self):
        self.yard = settled_yard()
        for deed in (("fall", "bridge", 7), ("fall", "tie", 1), ("tick", 1), ("tick", 3), ("tick", 3)):
            self.yard.deed(deed)
        self.seen = seen_of_yard(self.yard)
        self.assertEqual(len(self.yard.road()), 3)

    def refused(self, some):
        with self.assertRaises(NoDeed, msg=repr(some)[:200]):
            self.yard.deed(some)
        self.assertEqual(seen_of_yard(self.yard), self.seen, repr(some)[:200])

    def test_no_tuples(self):
        for thing in NO_NUMBERS + (0, 1, "tick", "tick 1", ["tick", 1], {"tick": 1}, ["fall", "tie", 0], iter("a")):
            self.refused(thing)

    def test_wrong_words(self):
        for word in ("", "Tick", "TICK", "tick ", " tick", "ticks", "go", "arrive", "drop", "bridge", "tie", "1"):
            self.refused((word, 1))
        for words in itertools.product(WORDS + ("", "Bridge", "ties"), repeat=2):
            if words not in itertools.product(("fall", "back"), ("bridge", "tie")):
                self.refused(words + (1,))
                self.refused(words + (0,))
        self.refused(("fall bridge", 1))
        self.refused(("fall tie", 0))
        self.refused(("back bridge", 7))
        self.refused(("back tie", 1))

    def test_things_in_a_words_place(self):
        for thing in NO_NUMBERS + (0, 1, ("tick",), ["tick"], b"tick"):
            self.refused((thing, 1))
            self.refused((thing, "bridge", 1))
            self.refused(("fall", thing, 1))
            self.refused(("back", thing, 7))

    def test_parts_too_many_and_too_few(self):
        for deed in (
                ("tick",), ("come",), ("lost",), ("fall",), ("back",), ("fall", "bridge"), ("fall", "tie"),
                ("back", "bridge"), ("back", "tie"), ("fall", 1), ("back", 7), ("tick", 1, 1), ("tick", 1, None),
                ("come", 0, 0), ("lost", 0, 0), ("fall", "bridge", 1, 1), ("fall", "tie", 0, None),
                ("back", "bridge", 7, 7), ("back", "tie", 1, ()), (("tick", 1),), (1, "tick"), (1,), (0, 0),
                ("tick", "bridge", 1), ("bridge", 1), ("tick",) + (1,) * 1000):
            self.refused(deed)

    def test_things_in_a_numbers_place(self):
        words = (
            ("tick",), ("come",), ("lost",), ("fall", "bridge"), ("fall", "tie"), ("back", "bridge"), ("back", "tie"))
        for deed, thing in itertools.product(words, NO_NUMBERS):
            self.refused(deed + (thing,))

    def test_ticks(self):
        for number in (7, 0, 2, 8, 999, 1000, -1, -3, 10 ** 50):
            self.refused(("tick", number))

    def test_places_beyond_the_road(self):
        for place in (3, 4, 100, -1, -3, -4, 10 ** 50, -10 ** 50):
            self.refused(("come", place))
            self.refused(("lost", place))
        empty = yard_of()
        for deed in (("come", 0), ("lost", 0), ("come", -1), ("lost", -1)):
            with self.assertRaises(NoDeed):
                empty.deed(deed)

    def test_falls(self):
        for number in (7, 0, 2, 999, -1, 10 ** 50):
            self.refused(("fall", "bridge", number))
        for place in (1, 3, 99, -1, -2, -3, 10 ** 50):
            self.refused(("fall", "tie", place))

    def test_backs(self):
        for number in (1, 3, 0, 2, 999, -1, 10 ** 50):
            self.refused(("back", "bridge", number))
        for place in (0, 2, 3, 99, -1, -2, 10 ** 50):
            self.refused(("back", "tie", place))

    def test_a_tie_that_is_down_by_its_bridge_alone_has_not_fallen(self):
        self.refused(("back", "tie", 2))
        self.yard.deed(("fall", "tie", 2))
        self.assertEqual(self.yard.down(), ((7,), (1, 2)))

    def test_what_is_refused_changes_nothing_of_what_comes(self):
        other = settled_yard()
        yard = settled_yard()
        for deed in (("tick", 7), ("fall", "bridge", 1), ("tick", 3), ("back", "bridge", 1), ("tick", 1)):
            for some in (
                    ("tick", 2), ("come", 50), ("lost", -1), ("fall", "bridge", 2), ("fall", "tie", 3),
                    ("back", "tie", 0), ("back", "bridge", 3), None, [deed]):
                with self.assertRaises(NoDeed):
                    yard.deed(some)
            yard.deed(deed)
            other.deed(deed)
            self.assertEqual(seen_of_yard(yard), seen_of_yard(other))


class OwnListsTest(unittest.TestCase):

    def test_lists_told_are_the_askers_own(self):
        yard = yard_of([("tick", 1), ("tick", 3)])
        seen = seen_of_yard(yard)
        for ask in (yard.road, yard.labels, yard.stamps):
            self.assertIs(type(ask()), list)
            self.assertTrue(all(type(one) is tuple for one in ask()))
            self.assertIsNot(ask(), ask())
            told = ask()
            told.clear()
            told.append("more")
            self.assertEqual(seen_of_yard(yard), seen)

    def test_nothing_done_later_changes_them(self):
        yard = yard_of([("tick", 1), ("tick", 3)])
        road, labels, stamps, down = yard.road(), yard.labels(), yard.stamps(), yard.down()
        for deed in (("come", 0), ("tick", 3), ("fall", "bridge", 1), ("lost", 0), ("fall", "tie", 0), ("tick", 7)):
            yard.deed(deed)
        self.assertEqual([letter[:3] for letter in road], [(1, 3, 0), (1, 7, 2), (3, 1, 0), (3, 7, 1)])
        self.assertEqual(labels, [(k, (k, 0, None, None)) for k in (1, 3, 7)])
        self.assertEqual(stamps, [(k, (0, 0)) for k in (1, 3, 7)])
        self.assertEqual(down, ((), ()))


class TwinTest(unittest.TestCase):

    def test_a_twin_goes_on_by_itself(self):
        for seed in range(20):
            chance = random.Random(seed)
            yard = Yard(drawn_net(chance), 20)
            for deed in drawn_yard_deeds(chance, yard, 100, 0.05):
                pass
            twin, seen = yard.twin(), seen_of_yard(yard)
            self.assertEqual(seen_of_yard(twin), seen)
            self.assertEqual((twin.net(), twin.greatest()), (yard.net(), yard.greatest()))
            deeds = list(drawn_yard_deeds(chance, twin, 100, 0.1))
            self.assertEqual(seen_of_yard(yard), seen)
            for deed in deeds:
                yard.deed(deed)
            self.assertEqual(seen_of_yard(yard), seen_of_yard(twin))


class AgainstTheModelTest(unittest.TestCase):

    def drawn_nonsense(self, chance, model):
        """Deeds that can't be done as the model stands."""
        letters = len(model.road)
        there = model.net[0]
        rows = [("come", letters), ("lost", letters), ("come", -1), ("tick", there[-1] + 1), ("tick", True), None]
        rows += [("tick", number) for number in model.fallen_bridges]
        rows += [("fall", "bridge", number) for number in model.fallen_bridges]
        rows += [("fall", "tie", place) for place in model.fallen_ties]
        rows += [("back", "bridge", number) for number in there if number not in model.fallen_bridges]
        rows += [("back", "tie", place) for place in range(len(model.net[1]) + 1) if place not in model.fallen_ties]
        return chance.choice(rows)

    def gone_through(self, seed, deeds, falls):
        chance = random.Random(seed)
        net = drawn_net(chance)
        greatest = chance.choice((4, 5, 8, 20, 200))
        yard, model = Yard(net, greatest), ModelYard(net, greatest)
        ends = set()
        for turn in range(deeds):
            if chance.random() < 0.1:
                with self.assertRaises(NoDeed):
                    yard.deed(self.drawn_nonsense(chance, model))
            deed = drawn_deed(chance, net, model.down(), len(model.road), falls)
            yard.deed(deed)
            model.deed(deed)
            seen = seen_of_yard(yard)
            self.assertEqual(seen, seen_of_model(model), (seed, turn, deed))
            ends.update(seen[4])
        return ends

    def test_long_rows(self):
        ends = set()
        for seed in range(60):
            ends |= self.gone_through(seed, 250, (0, 0.02, 0.1, 0.4)[seed % 4])
        self.assertLessEqual({("child", "parent"), ("parent", "child"), ("down", "down"), ("shut", "parent")}, ends)

    def test_forty_thousand_deeds(self):
        chance = random.Random(40000)
        net = drawn_net(chance, most_ties=16)
        while len(net[0]) < 10 or len(net[1]) < 16:
            net = drawn_net(chance)
        yard, model = Yard(net, 60), ModelYard(net, 60)
        for turn in range(40000):
            deed = drawn_deed(chance, net, model.down(), len(model.road), 0.01)
            yard.deed(deed)
            model.deed(deed)
            if turn % 500 == 0:
                self.assertEqual(seen_of_yard(yard), seen_of_model(model))
        self.assertEqual(seen_of_yard(yard), seen_of_model(model))

    def test_a_long_road(self):
        net = make_net([1, 2], [(1, 2, 1)] * 16)
        yard = yard_of([("tick", 1)] * 2000, net=net)
        self.assertEqual(len(yard.road()), 32000)
        for turn in range(2000):
            yard.deed(("come", 31999 - turn))
        self.assertEqual(len(yard.road()), 30000)
        self.assertEqual(yard.bridge(2).held(15)[0][0], (0, 1999))


if __name__ == "__main__":
    unittest.main()

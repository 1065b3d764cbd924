"""Open ways, rank papers and rings (points 18 to 20, 23 and 3)."""

import copy
import itertools
import random
import unittest

from drawn import NO_NUMBERS, drawn_deed, drawn_net, drawn_yard_deeds
from model import ModelYard, seen_of_yard
from shutways.nets import make_net
from shutways.quiet import quiet_round
from shutways.ways import is_ranked, open_ways, rank_paper, ring_of
from shutways.yards import Yard

# A ring 1 - 2 - 3 - 1, a second tie between 2 and 3, and 9 behind 3.
NET = make_net([1, 2, 3, 9], [(1, 2, 4), (2, 3, 1), (3, 1, 7), (2, 3, 2), (3, 9, 10)])
WAYS = [(0, 2, 1), (1, 3, 2), (4, 9, 3)]
PAPER = [(1, 1, 0), (2, 1, 4), (3, 1, 5), (9, 1, 15)]


def settled_yard(net=NET, greatest=40, rounds=20):
    yard = Yard(net, greatest)
    for k in range(rounds):
        quiet_round(yard)
    return yard


def has_ring(net, places):
    """Whether a ring is left when ties with a loose end are taken off one by one."""
    left = set(places)
    while True:
        ends = [end for place in left for end in net[1][place][:2]]
        loose = {place for place in left if any(ends.count(end) == 1 for end in net[1][place][:2])}
        if not loose:
            return bool(left)
        left -= loose


def plainly_ranked(net, ways, paper):
    """Point 19's words of a list of tuples of three whole numbers."""
    bridges = [row[0] for row in paper]
    if not set(bridges) <= set(net[0]):
        return False
    if any(one >= other for one, other in zip(bridges, bridges[1:])):
        return False
    roots = {row[0]: row[1] for row in paper}
    costs = {row[0]: row[2] for row in paper}
    seen = set()
    for place, child, parent in ways:
        if child not in roots or parent not in roots or child in seen:
            return False
        if roots[child] != roots[parent] or costs[child] - costs[parent] != net[1][place][2]:
            return False
        seen.add(child)
    return True


class OpenWaysTest(unittest.TestCase):

    def test_step_by_step(self):
        yard = Yard(make_net([1, 2], [(1, 2, 5)]), 20)
        rows = [
            (("tick", 1), []), (("come", 0), []), (("tick", 2), []), (("come", 0), []),
            (("tick", 1), []), (("come", 0), [(0, 2, 1)]), (("tick", 2), [(0, 2, 1)]),
            (("lost", 0), [(0, 2, 1)]), (("fall", "tie", 0), []), (("back", "tie", 0), [])]
        for deed, wanted in rows:
            yard.deed(deed)
            self.assertEqual(open_ways(yard), wanted, deed)

    def test_of_a_settled_yard(self):
        self.assertEqual(open_ways(settled_yard()), WAYS)

    def test_child_and_parent_by_either_number(self):
        yard = settled_yard(make_net([1, 2, 9], [(9, 2, 1), (9, 1, 1)]))
        self.assertEqual(open_ways(yard), [(0, 2, 9), (1, 9, 1)])

    def test_none(self):
        self.assertEqual(open_ways(Yard(NET, 40)), [])
        self.assertEqual(open_ways(Yard(make_net([0], []), 4)), [])

    def test_where_all_has_fallen(self):
        yard = settled_yard()
        for number in (1, 2, 3, 9):
            yard.deed(("fall", "bridge", number))
        self.assertEqual(open_ways(yard), [])

    def test_a_new_list_each_time(self):
        yard = settled_yard()
        told = open_ways(yard)
        self.assertIs(type(told), list)
        self.assertTrue(all(type(way) is tuple for way in told))
        self.assertIsNot(told, open_ways(yard))
        told.clear()
        self.assertEqual(open_ways(yard), WAYS)
        told = open_ways(yard)
        yard.deed(("fall", "bridge", 2))
        self.assertEqual(told, WAYS)
        self.assertNotEqual(open_ways(yard), WAYS)

    def test_at_many_moments_as_the_model_has_them(self):
        several = 0
        for seed in range(60):
            chance = random.Random(seed)
            net = drawn_net(chance)
            greatest = chance.choice((4, 10, 40))
            yard, model = Yard(net, greatest), ModelYard(net, greatest)
            for turn in range(250):
                deed = drawn_deed(chance, net, model.down(), len(model.road), (0, 0.01, 0.1)[seed % 3])
                yard.deed(deed)
                model.deed(deed)
                told = open_ways(yard)
                self.assertEqual(told, model.open_ways())
                self.assertEqual(told, sorted(told))
                several = max(several, len(told))
        self.assertGreater(several, 4)


class RankPaperTest(unittest.TestCase):

    def test_of_a_new_and_of_a_settled_yard(self):
        self.assertEqual(rank_paper(Yard(NET, 40)), [(1, 1, 0), (2, 2, 0), (3, 3, 0), (9, 9, 0)])
        self.assertEqual(rank_paper(settled_yard()), PAPER)

    def test_of_those_that_are_up(self):
        yard = settled_yard()
        yard.deed(("fall", "bridge", 2))
        self.assertEqual(rank_paper(yard), [(1, 1, 0), (3, 1, 5), (9, 1, 15)])
        for number in (1, 3, 9):
            yard.deed(("fall", "bridge", number))
        self.assertEqual(rank_paper(yard), [])

    def test_a_new_list_each_time(self):
        yard = settled_yard()
        told = rank_paper(yard)
        self.assertIs(type(told), list)
        self.assertTrue(all(type(row) is tuple for row in told))
        told.append("more")
        self.assertEqual(rank_paper(yard), PAPER)

    def test_is_that_of_the_labels(self):
        chance = random.Random(20)
        yard = Yard(drawn_net(chance), 8)
        for deed in drawn_yard_deeds(chance, yard, 300):
            self.assertEqual(rank_paper(yard), [(bridge,) + label[:2] for bridge, label in yard.labels()])


class IsRankedTest(unittest.TestCase):

    def refused(self, some, ways=WAYS, net=NET):
        self.assertIs(is_ranked(net, ways, some), False, repr(some)[:200])

    def let_by(self, some, ways=WAYS, net=NET):
        self.assertIs(is_ranked(net, ways, some), True, repr(some)[:200])

    def test_rank_papers(self):
        self.let_by(PAPER)
        self.let_by(PAPER, [])
        self.let_by([], [])
        self.let_by([(1, -5, -3), (2, -5, 1)], [(0, 2, 1)])
        self.let_by([(k, root + 9, cost + 100) for k, root, cost in PAPER])
        self.let_by([(1, 10 ** 50, 10 ** 60), (2, 10 ** 50, 10 ** 60 + 4)], [(0, 2, 1)])

    def test_no_list(self):
        for thing in NO_NUMBERS + (tuple(PAPER), set(PAPER), dict(enumerate(PAPER)), iter(PAPER), 1):
            self.refused(thing)
            if not isinstance(thing, list):
                self.refused(thing, [])

    def test_things_in_it(self):
        for thing in NO_NUMBERS + (3, "191", [9, 1, 15]):
            self.refused(PAPER + [thing])
            self.refused([thing] + PAPER)
            self.refused([thing], [])
        ring = []
        ring.append(ring)
        self.refused(ring, [])

    def test_other_lengths_and_lists(self):
        for k, row in enumerate(PAPER):
            for other in (row[:2], row + (0,), row + (None,), list(row), (row,), (), row[:1]):
                self.refused(PAPER[:k] + [other] + PAPER[k + 1:])
                self.refused(PAPER[:k] + [other] + PAPER[k + 1:], [])

    def test_other_things_as_numbers(self):
        for k, part, thing in itertools.product(range(4), range(3), NO_NUMBERS):
            row = PAPER[k][:part] + (thing,) + PAPER[k][part + 1:]
            self.refused(PAPER[:k] + [row] + PAPER[k + 1:])
            self.refused(PAPER[:k] + [row] + PAPER[k + 1:], [])

    def test_truths_that_are_like_the_right_numbers(self):
        net = make_net([0, 1], [(0, 1, 1)])
        paper = [(0, 0, 0), (1, 0, 1)]
        self.let_by(paper, [(0, 1, 0)], net)
        for k, part in itertools.product(range(2), range(3)):
            for like in (bool(paper[k][part]), float(paper[k][part])):
                rows = list(paper)
                rows[k] = rows[k][:part] + (like,) + rows[k][part + 1:]
                self.refused(rows, [(0, 1, 0)], net)
                self.refused(rows, [], net)

    def test_bridges_that_are_not_the_nets(self):
        for number in (0, 4, 8, 10, 999, 1000, -1, 10 ** 50):
            rows = sorted(PAPER + [(number, 1, 0)])
            self.refused(rows)
            self.refused([(number, number, 0)], [])

    def test_not_rising_or_twice(self):
        for rows in itertools.permutations(PAPER):
            self.assertIs(is_ranked(NET, WAYS, list(rows)), list(rows) == PAPER)
            self.assertIs(is_ranked(NET, [], list(rows)), list(rows) == PAPER)
        for k in range(4):
            self.refused(PAPER[:k] + [PAPER[k]] + PAPER[k:])
            self.refused(PAPER[:k] + [PAPER[k]] + PAPER[k:], [])
            self.refused(sorted(PAPER + [PAPER[k][:2] + (77,)]), [])

    def test_a_bridge_of_an_open_way_that_is_missing(self):
        for k in range(4):
            self.refused(PAPER[:k] + PAPER[k + 1:])
        self.refused([])
        # One that is of none of the ways may be missing.
        self.let_by(PAPER[:3], WAYS[:2])
        self.let_by(PAPER[1:], WAYS[1:])

    def test_the_child_of_two(self):
        net = make_net([1, 2, 3], [(1, 3, 5), (2, 3, 5), (1, 3, 5)])
        paper = [(1, 1, 0), (2, 1, 0), (3, 1, 5)]
        for ways in ([(0, 3, 1), (1, 3, 2)], [(0, 3, 1), (2, 3, 1)], [(1, 3, 2), (0, 3, 1), (2, 3, 1)]):
            self.refused(paper, ways, net)
            for way in ways:
                self.let_by(paper, [way], net)

    def test_the_parent_of_two(self):
        net = make_net([1, 2, 3], [(1, 3, 5), (1, 2, 6)])
        self.let_by([(1, 1, 0), (2, 1, 6), (3, 1, 5)], [(0, 3, 1), (1, 2, 1)], net)

    def test_unlike_roots(self):
        for k, root in itertools.product(range(4), (0, 2, 3, 9, -1)):
            rows = list(PAPER)
            rows[k] = (rows[k][0], root, rows[k][2])
            self.refused(rows)
            self.let_by(rows, [])

    def test_costs(self):
        for k, shift in itertools.product(range(4), (-5, -1, 1, 2, 10 ** 40)):
            rows = list(PAPER)
            rows[k] = rows[k][:2] + (rows[k][2] + shift,)
            self.refused(rows)
            self.let_by(rows, [])

    def test_child_and_parent_exchanged(self):
        self.refused([(1, 1, 0), (2, 1, 4)], [(0, 1, 2)])
        self.let_by([(1, 1, 4), (2, 1, 0)], [(0, 1, 2)])

    def test_the_cost_is_that_of_the_very_tie(self):
        self.let_by(PAPER, [(1, 3, 2)])
        self.refused(PAPER, [(3, 3, 2)])
        self.refused(PAPER, [(2, 3, 1)])

    def test_all_papers_of_small_numbers(self):
        net = make_net([1, 2, 3], [(1, 2, 1), (2, 3, 2), (1, 3, 1)])
        rows = list(itertools.product((1, 2, 3), (1, 2), range(4)))
        chance = random.Random(19)
        let_by = 0
        for turn in range(40000):
            paper = [chance.choice(rows) for k in range(chance.randint(0, 3))]
            if chance.random() < 0.8:
                paper = sorted(paper)
            ways = []
            for place in chance.sample(range(3), chance.choice((0, 1, 1, 1, 2, 3))):
                ends = chance.sample(net[1][place][:2], 2)
                ways.append((place, ends[0], ends[1]))
            wanted = plainly_ranked(net, sorted(ways), paper)
            self.assertIs(is_ranked(net, sorted(ways), paper), wanted)
            let_by += wanted and len(ways) > 0
        self.assertGreater(let_by, 100)

    def test_lists_handed_in_stay(self):
        for paper in (list(PAPER), list(reversed(PAPER)), [[1, 2, 3]], [(1, [2], {})]):
            ways = list(reversed(WAYS))
            before = copy.deepcopy((ways, paper))
            is_ranked(NET, ways, paper)
            self.assertEqual((ways, paper), before)


class RingTest(unittest.TestCase):

    def is_ring(self, net, places, ring):
        """Whether the ties lie one behind the other and come back, no tie twice."""
        self.assertIs(type(ring), list)
        self.assertGreaterEqual(len(ring), 2)
        self.assertEqual(len(ring), len(set(ring)))
        self.assertLessEqual(set(ring), set(places))
        for start in net[1][ring[0]][:2]:
            bridge = start
            for place in ring:
                ends = net[1][place][:2]
                bridge = ends[0] + ends[1] - bridge if bridge in ends else None
            if bridge == start:
                return
        self.fail((net, places, ring))

    def test_none(self):
        self.assertIsNone(ring_of(NET, []))
        self.assertIsNone(ring_of(make_net([0], []), []))
        for places in ([0], [0, 1], [4, 2, 0], [0, 2, 4], [3, 4, 2], [1, 0, 4]):
            self.assertIsNone(ring_of(NET, places), places)

    def test_a_ring_of_two(self):
        self.assertEqual(sorted(ring_of(NET, [1, 3])), [1, 3])
        self.assertEqual(sorted(ring_of(NET, [3, 1])), [1, 3])
        self.assertEqual(sorted(ring_of(NET, [4, 3, 0, 1])), [1, 3])
        net = make_net([1, 2], [(1, 2, 5), (1, 2, 5)])
        self.assertEqual(sorted(ring_of(net, [0, 1])), [0, 1])

    def test_a_ring_of_three(self):
        for places in itertools.permutations([0, 1, 2, 4]):
            ring = ring_of(NET, list(places))
            self.assertEqual(sorted(ring), [0, 1, 2])
            self.is_ring(NET, places, ring)

    def test_a_ring_of_ten(self):
        net = make_net(list(range(10)), [(k, (k + 1) % 10, 1) for k in range(10)])
        chance = random.Random(10)
        for turn in range(50):
            places = chance.sample(range(10), 10)
            ring = ring_of(net, places)
            self.assertEqual(sorted(ring), list(range(10)))
            self.is_ring(net, places, ring)
            self.assertIsNone(ring_of(net, places[1:]))

    def test_rings_beside_trees(self):
        net = make_net(
            list(range(9)),
            [(0, 1, 1), (1, 2, 1), (2, 3, 1), (5, 6, 1), (6, 7, 1), (7, 5, 1), (7, 8, 1), (4, 5, 1)])
        for turn in range(50):
            places = random.Random(turn).sample(range(8), 8)
            ring = ring_of(net, places)
            self.assertEqual(sorted(ring), [3, 4, 5])
            self.is_ring(net, places, ring)

    def test_two_rings_with_one_bridge_in_common(self):
        net = make_net([1, 2, 3, 4, 5], [(1, 2, 1), (2, 3, 1), (3, 1, 1), (3, 4, 1), (4, 5, 1), (5, 3, 1)])
        for places in itertools.permutations(range(6)):
            self.is_ring(net, places, ring_of(net, list(places)))

    def test_many(self):
        told = {True: 0, False: 0}
        for seed in range(3000):
            chance = random.Random(seed)
            net = drawn_net(chance)
            places = chance.sample(range(len(net[1])), chance.randint(0, len(net[1])))
            ring = ring_of(net, places)
            told[ring is None] += 1
            if ring is None:
                self.assertFalse(has_ring(net, places), (net, places))
            else:
                self.assertTrue(has_ring(net, places), (net, places))
                self.is_ring(net, places, ring)
        self.assertGreater(min(told.values()), 500)

    def test_the_list_handed_in_stays_and_a_new_one_is_told(self):
        places = [4, 2, 1, 0]
        ring = ring_of(NET, places)
        self.assertEqual(places, [4, 2, 1, 0])
        self.assertIsNot(ring, places)
        ring.clear()
        self.assertEqual(len(ring_of(NET, places)), 3)


class PromiseTest(unittest.TestCase):

    def looked_at(self, yard):
        """How many ways are open; what 3, 20 and 23 promise is asked of the yard."""
        ways = open_ways(yard)
        paper = rank_paper(yard)
        self.assertIs(is_ranked(yard.net(), ways, paper), True)
        self.assertTrue(plainly_ranked(yard.net(), ways, paper))
        places = [place for place, child, parent in ways]
        self.assertIsNone(ring_of(yard.net(), places))
        self.assertFalse(has_ring(yard.net(), places))
        labels = dict(yard.labels())
        for place, child, parent in ways:
            self.assertEqual(labels[child][0], labels[parent][0])
            self.assertEqual(labels[child][1] - labels[parent][1], yard.net()[1][place][2])
            self.assertEqual(labels[child][2], place)
        return len(ways)

    def test_at_every_moment_of_long_rows(self):
        opened = 0
        for seed in range(120):
            chance = random.Random(seed)
            yard = Yard(drawn_net(chance), chance.choice((4, 5, 8, 20, 60)))
            falls = (0, 0.01, 0.05, 0.2)[seed % 4]
            lost, front = chance.choice((0, 0.05, 0.3)), chance.choice((0, 0.5, 1))
            for deed in drawn_yard_deeds(chance, yard, 400, falls, lost, front):
                opened += self.looked_at(yard)
        self.assertGreater(opened, 20000)

    def test_at_every_moment_of_small_rings_with_many_falls(self):
        nets = [
            make_net([1, 2, 3], [(1, 2, 1), (2, 3, 1), (1, 3, 1)]),
            make_net([1, 2], [(1, 2, 1), (1, 2, 1), (1, 2, 2)]),
            make_net([1, 2, 3, 4], [(1, 2, 1), (2, 3, 1), (3, 4, 1), (1, 4, 2)])]
        opened = 0
        for seed in range(90):
            chance = random.Random(seed)
            yard = Yard(nets[seed % 3], chance.choice((4, 8, 16)))
            for deed in drawn_yard_deeds(chance, yard, 400, chance.choice((0.01, 0.05, 0.1)), 0.1, 0.3):
                opened += self.looked_at(yard)
        self.assertGreater(opened, 5000)

    def test_through_quiet_rounds_deed_by_deed(self):
        for seed in range(30):
            chance = random.Random(seed)
            net = drawn_net(chance)
            yard = Yard(net, 40)
            for turn in range(6):
                for deed in list(drawn_yard_deeds(chance, yard, 10, 0.3)):
                    pass
                for k in range(4):
                    for number, label in yard.labels():
                        yard.deed(("tick", number))
                        self.looked_at(yard)
                    while yard.road():
                        yard.deed(("come", 0))
                        self.looked_at(yard)

    def test_looking_changes_nothing(self):
        chance = random.Random(2)
        yard = Yard(NET, 20)
        for deed in drawn_yard_deeds(chance, yard, 200):
            seen = seen_of_yard(yard)
            open_ways(yard)
            rank_paper(yard)
            self.assertEqual(seen_of_yard(yard), seen)


if __name__ == "__main__":
    unittest.main()

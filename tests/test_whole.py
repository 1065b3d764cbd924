"""The promise of the whole (points 3, 20, 23 and 24), by long rows of deeds, also by the desk alone."""

import random
import unittest

from drawn import drawn_net, drawn_yard_deeds
from model import plainly_told
from shutways.bounds import settling
from shutways.carriers import Carrier
from shutways.desk import Desk
from shutways.errors import NoDeed
from shutways.histories import read_deeds, show_deeds, turns, yard_at
from shutways.learners import Learner
from shutways.manytrees import ManyTrees
from shutways.nettexts import show_net
from shutways.quiet import is_settled, quiet_round, rounds_told
from shutways.ways import is_ranked, open_ways, rank_paper, ring_of
from shutways.yards import Yard


def drawn_mood(chance):
    """How much falls, how much is lost, and how often letters come in order."""
    return chance.choice((0, 0.005, 0.03, 0.15)), chance.choice((0, 0.05, 0.3)), chance.choice((0, 0.5, 1))


class YardsTest(unittest.TestCase):

    def holds_now(self, yard):
        """Points 3 and 23 from the labels alone, and point 20 by the checkers."""
        net = yard.net()
        ways = open_ways(yard)
        labels = dict(yard.labels())
        for place, child, parent in ways:
            self.assertEqual(labels[child][0], labels[parent][0])
            self.assertEqual(labels[child][1], labels[parent][1] + net[1][place][2])
        children = [child for place, child, parent in ways]
        self.assertEqual(len(children), len(set(children)))
        self.assertTrue(is_ranked(net, ways, rank_paper(yard)))
        self.assertIsNone(ring_of(net, [place for place, child, parent in ways]))
        return len(ways)

    def test_at_every_moment(self):
        most = 0
        for seed in range(60):
            chance = random.Random(seed)
            yard = Yard(drawn_net(chance), chance.choice((4, 8, 40, 200)))
            for mood in range(6):
                for deed in drawn_yard_deeds(chance, yard, 100, *drawn_mood(chance)):
                    most = max(most, self.holds_now(yard))
                for k in range(chance.randint(0, 6)):
                    quiet_round(yard)
                    most = max(most, self.holds_now(yard))
        self.assertGreater(most, 6)

    def test_settled_behind_the_told_rounds_and_from_then_on(self):
        for seed in range(60):
            chance = random.Random(seed)
            net = drawn_net(chance)
            greatest = chance.choice((4 * len(net[0]), 40, 50))
            yard = Yard(net, greatest)
            for mood in range(3):
                deeds = chance.choice((0, 50, 150))
                for deed in drawn_yard_deeds(chance, yard, deeds, *drawn_mood(chance)):
                    pass
                for k in range(rounds_told(net, greatest)):
                    quiet_round(yard)
                    self.holds_now(yard)
                tree = plainly_told(net, yard.down())
                for k in range(5):
                    self.assertTrue(is_settled(yard))
                    self.assertEqual([(bridge,) + label[:3] for bridge, label in yard.labels()], tree)
                    self.assertEqual(
                        [place for place, child, parent in open_ways(yard)],
                        sorted(row[3] for row in tree if row[3] is not None))
                    quiet_round(yard)

    def test_histories_tell_the_same(self):
        for seed in range(20):
            chance = random.Random(seed)
            net = drawn_net(chance)
            yard = Yard(net, 40)
            deeds = list(drawn_yard_deeds(chance, yard, 200, *drawn_mood(chance)))
            read = read_deeds(show_deeds(deeds))
            self.assertEqual(read, deeds)
            self.assertEqual(yard_at(net, 40, read, 200).labels(), yard.labels())
            ways = [place for place, child, parent in open_ways(yard)]
            for place in range(len(net[1])):
                told = turns(net, 40, read, place)
                self.assertEqual(bool(told) and told[-1][1] == "open", place in ways)
            self.assertLessEqual(settling(net, 40, read), rounds_told(net, 40))

    def test_whoever_has_the_yard(self):
        """A carrier, a learner and a tree in the net's own order do the same deeds to the same end."""
        for seed in range(20):
            chance = random.Random(seed)
            net = drawn_net(chance)
            yards = [Yard(net, 40) for k in range(3)]
            carrier, learner = Carrier(yards[1]), Learner(yards[2], [("a", net[0][0])], True)
            trees = ManyTrees(net, 40, [net[0]])
            for deed in drawn_yard_deeds(chance, yards[0], 150, *drawn_mood(chance)):
                carrier.deed(deed)
                learner.deed(deed)
                trees.deed((deed[0], 0, deed[1]) if deed[0] in ("come", "lost") else deed)
                labels = yards[0].labels()
                self.assertEqual([yards[1].labels(), yards[2].labels()], [labels, labels])
                self.assertEqual(trees.labels(0), [(bridge,) + label[:3] for bridge, label in labels])
                self.assertEqual(trees.ways(0), [way[0] for way in open_ways(yards[0])])
                for yard in yards:
                    self.holds_now(yard)


class DeskAloneTest(unittest.TestCase):

    def labels_told(self, desk, net):
        """Root, cost and up of those that are up, as the desk answers them."""
        labels = {}
        for bridge in net[0]:
            told = desk.say(f"label {bridge}")
            if told != "down":
                root, cost, over = told.split(" ")
                labels[bridge] = (int(root), int(cost), None if over == "-" else int(over))
        return labels

    def ways_told(self, desk):
        told = desk.say("ways")
        return [] if told == "none" else [int(word) for word in told.split(" ")]

    def holds_now(self, desk, net):
        labels, ways = self.labels_told(desk, net), self.ways_told(desk)
        children = []
        for place in ways:
            one, other, cost = net[1][place]
            self.assertEqual(labels[one][0], labels[other][0])
            self.assertEqual(abs(labels[one][1] - labels[other][1]), cost)
            children.append(max(one, other, key=lambda bridge: labels[bridge][1]))
        self.assertEqual(len(children), len(set(children)))
        self.assertIsNone(ring_of(net, ways))
        return len(ways)

    def drawn_row(self, chance, net, letters):
        """A row that may or may not be done."""
        draw = chance.random()
        if draw < 0.04:
            sort = chance.choice(("bridge", "tie"))
            numbers = net[0] if sort == "bridge" else range(len(net[1]) or 1)
            word = chance.choice(("fall", "back", "back"))
            return f"{word} {sort} {chance.choice(numbers)}"
        if draw < 0.07:
            return f"lost {chance.randrange(letters + 1)}"
        if draw < 0.45 + letters / 30:
            return f"come {chance.choice((0, chance.randrange(letters + 1)))}"
        return f"tick {chance.choice(net[0])}"

    def test_long_rows(self):
        most, refused = 0, 0
        for seed in range(30):
            chance = random.Random(seed)
            net = drawn_net(chance)
            desk = Desk()
            desk.say("net 40\n" + show_net(net))
            for turn in range(300):
                try:
                    self.assertEqual(desk.say(self.drawn_row(chance, net, int(desk.say("road")))), "ok")
                except NoDeed:
                    refused += 1
                most = max(most, self.holds_now(desk, net))
            self.assertEqual(desk.say(f"quiet {rounds_told(net, 40)}"), "settled")
            for k in range(4):
                fallen = [bridge for bridge in net[0] if desk.say(f"label {bridge}") == "down"]
                labels = self.labels_told(desk, net)
                ties = [place for place in range(len(net[1])) if self.is_fallen(desk, place)]
                tree = plainly_told(net, (tuple(fallen), tuple(ties)))
                self.assertEqual([(bridge,) + labels[bridge] for bridge in sorted(labels)], tree)
                self.assertEqual(self.ways_told(desk), sorted(row[3] for row in tree if row[3] is not None))
                self.holds_now(desk, net)
                self.assertEqual(desk.say("quiet 1"), "settled")
        self.assertGreater(most, 3)
        self.assertGreater(refused, 100)

    def is_fallen(self, desk, place):
        """Asked by a back; where that is done the tie falls anew, which leaves it without letters as it was."""
        try:
            desk.say(f"back tie {place}")
        except NoDeed:
            return False
        desk.say(f"fall tie {place}")
        return True


if __name__ == "__main__":
    unittest.main()

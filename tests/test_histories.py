"""Histories (points 38 to 40)."""

import random
import unittest

from drawn import NO_DEEDS, drawn_net, drawn_yard_deeds
from model import ModelYard, seen_of_model, seen_of_yard
from shutways.bridges import Bridge
from shutways.errors import NoDeed, NoLine
from shutways.histories import read_deeds, show_deeds, turns, why_end, yard_at
from shutways.nets import make_net
from shutways.quiet import quiet_round
from shutways.ways import open_ways
from shutways.yards import Yard

SORTS = (
    ("tick",), ("come",), ("lost",), ("fall", "bridge"), ("fall", "tie"), ("back", "bridge"), ("back", "tie"))
PAIR = make_net([1, 2], [(1, 2, 5)])
# The way of the pair's tie opens, is shut by its fall, and opens again.
OPENING = [("tick", 1), ("come", 0), ("tick", 2), ("come", 0), ("tick", 1), ("come", 0)]
DEEDS = OPENING + [("tick", 2), ("fall", "tie", 0), ("lost", 0), ("back", "tie", 0)] + OPENING


class TextsTest(unittest.TestCase):

    def test_all_sorts(self):
        deeds = [
            ("tick", 3), ("come", 0), ("lost", 0), ("fall", "bridge", 3), ("fall", "tie", 0), ("back", "bridge", 3),
            ("back", "tie", 0)]
        text = "tick 3\ncome 0\nlost 0\nfall bridge 3\nfall tie 0\nback bridge 3\nback tie 0\n"
        self.assertEqual(show_deeds(deeds), text)
        self.assertEqual(read_deeds(text), deeds)

    def test_none(self):
        self.assertEqual(show_deeds([]), "")
        self.assertEqual(read_deeds(""), [])

    def test_numbers_of_one_to_six_figures(self):
        for number in (0, 1, 9, 10, 99, 100, 999, 1000, 9999, 10000, 99999, 100000, 123456, 999999):
            for words in SORTS:
                deed = words + (number,)
                text = " ".join(words) + f" {number}\n"
                self.assertEqual(show_deeds([deed]), text)
                told = read_deeds(text)
                self.assertEqual(told, [deed])
                self.assertIs(type(told[0]), tuple)
                self.assertIs(type(told[0][-1]), int)

    def test_whether_they_can_be_done_is_not_looked_at(self):
        text = "back tie 999999\ntick 5\ntick 5\nback tie 999999\n"
        self.assertEqual(read_deeds(text), [("back", "tie", 999999), ("tick", 5), ("tick", 5), ("back", "tie", 999999)])

    def test_many(self):
        for seed in range(20):
            chance = random.Random(seed)
            deeds = [chance.choice(SORTS) + (chance.randrange(10 ** chance.randint(1, 6)),) for k in range(300)]
            text = show_deeds(deeds)
            self.assertEqual(text.count("\n"), 300)
            self.assertEqual(read_deeds(text), deeds)
            self.assertEqual(show_deeds(read_deeds(text)), text)

    def refused(self, text):
        with self.assertRaises(NoLine, msg=repr(text)[:100]):
            read_deeds(text)

    def test_no_numbers(self):
        for word in (
                "", "00", "03", "000003", "+3", "-3", "-0", "- 3", "3.", "3.0", "3e1", "0x3", "3_0", "1000000", "1234567",
                "9" * 5000, "0" * 5000, "1" + "0" * 5000, "three", "3a", "a3", "3 3", " 3", "3 ", "3\t", "\t3", "3\r",
                "\u0663", "\u00b2", "\uff13", "None", "True", "3\n3", "3,", "(3)", "'3'"):
            for words in SORTS:
                self.refused(" ".join(words) + f" {word}\n")
                self.refused("tick 1\n" + " ".join(words) + f" {word}\ntick 1\n")

    def test_line_feeds(self):
        for text in (
                "tick 3", "tick 3\ntick 3", "\n", "\n\n", "tick 3\n\n", "\ntick 3\n", "tick 3\n\ntick 3\n", "tick\n3\n",
                "tick 3\r\n", "tick 3\n ", "tick 3\n\t", " \n", "tick 3\v", "tick 3\x0c", "tick 3\x85tick 3\n",
                "tick 3\u2028tick 3\n"):
            self.refused(text)

    def test_blanks_and_tabs(self):
        for text in (
                " tick 3\n", "tick  3\n", "tick 3 \n", "tick\t3\n", "\ttick 3\n", "tick 3\t\n", "tick3\n", "fall  tie 3\n",
                "fall tie  3\n", "fall\ttie 3\n", "falltie 3\n", "fall tie3\n", "fall tie 3 \n", " ", "  \n", "\t"):
            self.refused(text)

    def test_words(self):
        for line in (
                "tick", "come", "lost", "fall", "back", "fall bridge", "back tie", "3", "0", "tie 0", "bridge 3", "fall 3",
                "back 3", "tick 3 3", "tick bridge 3", "tick tie 3", "come tie 0", "come 0 0", "lost 0 0", "fall way 0",
                "fall bridge tie 0", "fall bridge 3 3", "back bridge bridge 3", "Tick 3", "TICK 3", "tIck 3", "Fall tie 0",
                "fall Tie 0", "BACK TIE 0", "tock 3", "ticks 3", "arrive 0", "drop 0", "frame 3", "quiet 3", "ways",
                "3 tick", "tie fall 0", "fall tie", "tick three", "('tick', 3)", "#", "tick 3 # why", "tick 3;",
                "bridge fall 3", "net 20"):
            self.refused(line + "\n")
            self.refused("tick 1\n" + line + "\n")
            self.refused(line + "\ntick 1\n")

    def test_drawn_nonsense(self):
        """Whatever is read is written back to just that text."""
        parts = ["tick", "come", "lost", "fall", "back", "bridge", "tie", " ", " ", "\n", "0", "7", "12", "\t", "A"]
        read = 0
        for seed in range(4000):
            chance = random.Random(seed)
            text = "".join(chance.choice(parts) for k in range(chance.randint(1, 7)))
            if chance.random() < 0.5:
                text = " ".join(chance.choice(SORTS)) + " " + text + "\n"
            try:
                deeds = read_deeds(text)
            except NoLine:
                continue
            read += 1
            self.assertEqual(show_deeds(deeds), text)
        self.assertGreater(read, 50)

    def test_what_is_handed_in_stays_and_what_is_told_is_the_askers_own(self):
        deeds = list(DEEDS)
        text = show_deeds(deeds)
        self.assertEqual(deeds, DEEDS)
        told = read_deeds(text)
        self.assertIs(type(told), list)
        self.assertIsNot(told, read_deeds(text))
        told.clear()
        self.assertEqual(read_deeds(text), DEEDS)
        self.assertIsNot(read_deeds(""), read_deeds(""))


class YardAtTest(unittest.TestCase):

    def test_each_number_of_deeds(self):
        for many in range(len(DEEDS) + 1):
            model = ModelYard(PAIR, 20)
            for deed in DEEDS[:many]:
                model.deed(deed)
            yard = yard_at(PAIR, 20, DEEDS, many)
            self.assertIsInstance(yard, Yard)
            self.assertEqual((yard.net(), yard.greatest()), (PAIR, 20))
            self.assertEqual(seen_of_yard(yard), seen_of_model(model))

    def test_none_of_none(self):
        self.assertEqual(seen_of_yard(yard_at(PAIR, 20, [], 0)), seen_of_yard(Yard(PAIR, 20)))
        for many in (1, -1, 2):
            with self.assertRaises(NoLine):
                yard_at(PAIR, 20, [], many)

    def test_another_number(self):
        for many in (-1, -2, -len(DEEDS), len(DEEDS) + 1, 10 ** 50, -10 ** 50):
            with self.assertRaises(NoLine):
                yard_at(PAIR, 20, DEEDS, many)

    def test_the_number_goes_ahead_of_the_deeds(self):
        for some in NO_DEEDS:
            for many in (-1, 3, 10 ** 50):
                with self.assertRaises(NoLine):
                    yard_at(PAIR, 20, [some, ("tick", 1)], many)

    def test_just_where_one_of_the_first_ones_cannot_be_done(self):
        for some in NO_DEEDS + (("come", 1), ("tick", 3), ("back", "tie", 0)):
            deeds = [("tick", 1), some, ("tick", 1)]
            for many in (0, 1):
                self.assertEqual(len(yard_at(PAIR, 20, deeds, many).road()), many)
            for many in (2, 3):
                with self.assertRaises(NoDeed, msg=repr(some)):
                    yard_at(PAIR, 20, deeds, many)

    def test_it_goes_on_as_another_one(self):
        for seed in range(20):
            chance = random.Random(seed)
            yard = Yard(drawn_net(chance), 20)
            deeds = list(drawn_yard_deeds(chance, yard, 100, 0.05))
            kept = list(deeds)
            many = chance.randint(0, 100)
            other = yard_at(yard.net(), 20, deeds, many)
            self.assertEqual(deeds, kept)
            deeds.clear()
            for deed in kept[many:]:
                other.deed(deed)
            quiet_round(other)
            quiet_round(yard)
            self.assertEqual(seen_of_yard(other), seen_of_yard(yard))

    def test_each_yard_by_itself(self):
        one, other = yard_at(PAIR, 20, DEEDS, 3), yard_at(PAIR, 20, DEEDS, 3)
        seen = seen_of_yard(other)
        one.deed(("tick", 1))
        one.deed(("fall", "bridge", 2))
        self.assertEqual(seen_of_yard(other), seen)


class TurnsTest(unittest.TestCase):

    def test_open_and_shut_by_turns(self):
        self.assertEqual(turns(PAIR, 20, DEEDS, 0), [(5, "open"), (7, "shut"), (15, "open")])
        self.assertEqual(turns(PAIR, 20, DEEDS[:5], 0), [])
        self.assertEqual(turns(PAIR, 20, DEEDS[:6], 0), [(5, "open")])
        self.assertEqual(turns(PAIR, 20, [], 0), [])

    def test_of_each_tie_by_itself(self):
        net = make_net([1, 2, 3], [(2, 3, 1), (1, 2, 5)])
        deeds = [("tick", 1), ("come", 0), ("tick", 2), ("come", 1), ("tick", 1), ("come", 1)]
        self.assertEqual([turns(net, 20, deeds, place) for place in (0, 1)], [[], [(5, "open")]])

    def test_no_deed(self):
        for some in NO_DEEDS + (("tick", 3), ("come", 9), ("back", "tie", 0)):
            for deeds in ([some], [("tick", 1), some, ("tick", 1)]):
                with self.assertRaises(NoDeed, msg=repr(some)):
                    turns(PAIR, 20, deeds, 0)

    def test_drawn_rows(self):
        longest = 0
        for seed in range(40):
            chance = random.Random(seed)
            net = drawn_net(chance)
            model, yard = ModelYard(net, 40), Yard(net, 40)
            deeds, ways = [], []
            for deed in drawn_yard_deeds(chance, yard, 300, (0, 0.02)[seed % 2]):
                model.deed(deed)
                deeds.append(deed)
                ways.append([place for place, child, parent in model.open_ways()])
            kept = list(deeds)
            for place in range(len(net[1])):
                plain = []
                for number in range(len(deeds)):
                    ahead = number > 0 and place in ways[number - 1]
                    if (place in ways[number]) != ahead:
                        plain.append((number, "shut" if ahead else "open"))
                told = turns(net, 40, deeds, place)
                self.assertEqual(told, plain)
                self.assertEqual([word for number, word in told], (["open", "shut"] * 300)[:len(told)])
                longest = max(longest, len(told))
            self.assertEqual(deeds, kept)
        self.assertGreater(longest, 3)

    def test_lists_told_are_the_askers_own(self):
        told = turns(PAIR, 20, DEEDS, 0)
        self.assertIs(type(told), list)
        self.assertTrue(all(type(one) is tuple for one in told))
        self.assertIsNot(told, turns(PAIR, 20, DEEDS, 0))
        told.clear()
        self.assertEqual(len(turns(PAIR, 20, DEEDS, 0)), 3)


def letter(stamp, root, rests=None, agrees=None, count=0):
    return ((0, count), stamp, root, 0, 0, rests, agrees)


class WhyEndTest(unittest.TestCase):

    def child(self):
        """Bridge 5 with its up over the tie 0 to 1, which has agreed; 7 over the tie 1 rests on it."""
        bridge = Bridge(5, 0, [(0, 1, 2), (1, 7, 3)], 20)
        bridge.hear(0, letter((0, 4), 1))
        bridge.tick()
        bridge.hear(0, letter((0, 4), 1, agrees=(0, 1), count=1))
        bridge.hear(1, letter((0, 3), 1, rests=(0, 1)))
        return bridge

    def test_child_and_parent(self):
        bridge = self.child()
        self.assertEqual([why_end(bridge, place) for place in (0, 1)], ["child", "parent"])

    def test_down(self):
        bridge = self.child()
        for place in (2, 7, 999, -1):
            self.assertEqual(why_end(bridge, place), "down")
        bridge.down(0)
        bridge.down(1)
        self.assertEqual([why_end(bridge, place) for place in (0, 1)], ["down", "down"])

    def test_no_letter(self):
        bridge = self.child()
        for place, neighbour, cost in ((0, 1, 2), (1, 7, 3)):
            bridge.down(place)
            bridge.up(place, neighbour, cost)
        # The up is over the tie 0 still, as it had no tick.
        self.assertEqual(bridge.label()[2], 0)
        self.assertEqual([why_end(bridge, place) for place in (0, 1)], ["no letter", "no letter"])
        self.assertEqual(why_end(Bridge(5, 0, [(0, 1, 2)], 20), 0), "no letter")

    def test_not_agreed(self):
        bridge = Bridge(5, 0, [(0, 1, 2)], 20)
        bridge.hear(0, letter((0, 4), 1))
        bridge.tick()
        self.assertEqual(why_end(bridge, 0), "not agreed")
        bridge.hear(0, letter((0, 4), 1, agrees=(0, 0), count=1))
        self.assertEqual(why_end(bridge, 0), "not agreed")
        bridge.hear(0, letter((0, 4), 1, agrees=(0, 1), count=2))
        self.assertEqual(why_end(bridge, 0), "child")

    def test_elder(self):
        bridge = self.child()
        bridge.hear(0, letter((0, 5), 1, agrees=(0, 1), count=2))
        self.assertEqual(bridge.end(0), "shut")
        self.assertEqual(why_end(bridge, 0), "elder")
        bridge.tick()
        self.assertEqual(why_end(bridge, 0), "not agreed")

    def test_where_two_are_so_the_first_one(self):
        bridge = self.child()
        bridge.hear(0, letter((0, 5), 1, count=2))
        self.assertEqual(why_end(bridge, 0), "not agreed")
        bridge.hear(0, letter((0, 5), 1, agrees=(0, 7), count=3))
        self.assertEqual(why_end(bridge, 0), "not agreed")

    def test_not_rested_on(self):
        bridge = self.child()
        bridge.hear(1, letter((0, 4), 7, count=1))
        self.assertEqual(why_end(bridge, 1), "not rested on")
        bridge.hear(1, letter((0, 4), 7, rests=(0, 0), count=2))
        self.assertEqual(why_end(bridge, 1), "not rested on")
        bridge.hear(1, letter((0, 4), 7, rests=(1, 1), agrees=(0, 1), count=3))
        self.assertEqual(why_end(bridge, 1), "not rested on")
        bridge.hear(1, letter((0, 4), 7, rests=(0, 1), count=4))
        self.assertEqual(why_end(bridge, 1), "parent")

    def test_of_a_root(self):
        bridge = Bridge(1, 0, [(0, 5, 2)], 20)
        bridge.hear(0, letter((0, 0), 5))
        bridge.tick()
        self.assertEqual(why_end(bridge, 0), "not rested on")

    def test_at_moments_of_a_yard(self):
        yard = Yard(PAIR, 20)
        rows = []
        for deed in OPENING + [("fall", "tie", 0), ("back", "tie", 0)]:
            yard.deed(deed)
            rows.append((why_end(yard.bridge(1), 0), why_end(yard.bridge(2), 0)))
        self.assertEqual(rows, [
            ("no letter", "no letter"), ("no letter", "not rested on"), ("no letter", "not agreed"),
            ("parent", "not agreed"), ("parent", "not agreed"), ("parent", "child"),
            ("down", "down"), ("no letter", "no letter")])

    def plainly_why(self, model, place):
        """Point 40's words of a model's bridge."""
        end = model.end(place)
        if end in ("down", "child", "parent"):
            return [end]
        held = model.letters.get(place)
        words = []
        if held is None:
            return ["no letter"]
        if place == model.label[2]:
            if held[6] != model.stamp():
                words.append("not agreed")
            if held[1] != model.label[3]:
                words.append("elder")
        elif held[5] != model.stamp():
            words.append("not rested on")
        return words

    def test_at_many_moments(self):
        seen = {}
        for seed in range(50):
            chance = random.Random(seed)
            net = drawn_net(chance)
            yard, model = Yard(net, 20), ModelYard(net, 20)
            for deed in drawn_yard_deeds(chance, yard, 250, (0, 0.02, 0.1)[seed % 3]):
                model.deed(deed)
                ahead = seen_of_yard(yard)
                for number in model.bridges:
                    for place in range(-1, len(net[1]) + 1):
                        words = self.plainly_why(model.bridges[number], place)
                        self.assertEqual(why_end(yard.bridge(number), place), words[0])
                        for word in words:
                            seen[word] = seen.get(word, 0) + 1
                self.assertEqual(seen_of_yard(yard), ahead)
        self.assertEqual(
            sorted(seen), ["child", "down", "elder", "no letter", "not agreed", "not rested on", "parent"])
        self.assertGreater(len(open_ways(yard_at(PAIR, 20, DEEDS, 6))), 0)


if __name__ == "__main__":
    unittest.main()

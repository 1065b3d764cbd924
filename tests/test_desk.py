"""The desk (point 41)."""

import random
import unittest

from drawn import NO_NUMBERS, drawn_deed, drawn_net, drawn_yard_deeds
from model import ModelYard
from shutways.desk import Desk
from shutways.errors import NoCommand, NoDeed, NoFrame, NoNet
from shutways.histories import show_deeds
from shutways.nets import make_net
from shutways.nettexts import show_net
from shutways.yards import Yard

NET = make_net([1, 2, 5, 9], [(1, 2, 4), (2, 5, 1), (1, 5, 7), (5, 9, 10)])
NET_ROW = "net 20\n" + show_net(NET)
NO_NUMERALS = (
    "", "00", "01", "007", "+1", "-1", "- 1", "1.0", "1e1", "0x1", "1_0", "1000000", "9" * 5000, "0" * 5000, "one", "a",
    "1 1", " 1", "1 ", "1\t", "\t1", "1\n", "\n1", "1\r", "\u0661", "\u00b9", "\uff11", "None", "True", "1,", "(1)")


def desk_with_net():
    desk = Desk()
    desk.say(NET_ROW)
    return desk


def settled_desk():
    desk = desk_with_net()
    desk.say("quiet 42")
    return desk


def seen_of_desk(desk, net=NET):
    """All that a desk answers without being changed."""
    rows = [desk.say("ways"), desk.say("road"), desk.say("quiet 0")]
    return rows + [desk.say(f"label {bridge}") for bridge in net[0]]


class NetRowTest(unittest.TestCase):

    def test_ok(self):
        desk = Desk()
        self.assertEqual(desk.say(NET_ROW), "ok")
        self.assertEqual(seen_of_desk(desk), ["none", "0", "not yet", "1 0 -", "2 0 -", "5 0 -", "9 0 -"])

    def test_one_bridge(self):
        desk = Desk()
        self.assertEqual(desk.say("net 4\nbridge 0\n"), "ok")
        self.assertEqual([desk.say(row) for row in ("quiet 0", "ways", "label 0", "frame 0")], ["settled", "none", "0 0 -", "0"])

    def test_in_the_place_of_one_that_is_there(self):
        desk = settled_desk()
        desk.say("fall bridge 9")
        desk.say("tick 1")
        self.assertEqual(desk.say("net 30\nbridge 1\nbridge 7\ntie 1 7 3\n"), "ok")
        self.assertEqual([desk.say(row) for row in ("road", "ways", "label 7", "label 1")], ["0", "none", "7 0 -", "1 0 -"])
        for row in ("label 9", "label 2"):
            with self.assertRaises(NoCommand):
                desk.say(row)
        self.assertEqual(desk.say(NET_ROW), "ok")
        self.assertEqual(seen_of_desk(desk), seen_of_desk(desk_with_net()))

    def test_ages(self):
        for age in (4, 5, 9, 10, 99, 100, 199, 200):
            self.assertEqual(Desk().say(f"net {age}\nbridge 1\n"), "ok")

    def test_the_age_goes_on_to_the_yard(self):
        for age in (8, 9, 30):
            desk, yard = Desk(), Yard(NET, age)
            desk.say(f"net {age}\n" + show_net(NET))
            desk.say("tick 1")
            desk.say("come 0")
            yard.deed(("tick", 1))
            yard.deed(("come", 0))
            for k in range(40):
                desk.say("tick 2")
                yard.deed(("tick", 2))
                root, cost, over, rests = yard.bridge(2).label()
                self.assertEqual(desk.say("label 2"), "2 0 -" if over is None else f"{root} {cost} {over}")

    def refused(self, error, row):
        """With and without a yard ahead of it; the yard that is there, or none, stays."""
        settled, empty = settled_desk(), Desk()
        for desk in (settled, empty):
            with self.assertRaises(error, msg=repr(row)[:100]):
                desk.say(row)
        self.assertEqual(seen_of_desk(settled), ["0 1 3", "0", "settled", "1 0 -", "1 4 0", "1 5 1", "1 15 3"])
        with self.assertRaises(NoCommand):
            empty.say("ways")

    def test_other_ages(self):
        for age in NO_NUMERALS + ("0", "1", "2", "3", "201", "202", "999", "1000", "999999", "4.0"):
            self.refused(NoCommand, f"net {age}\n" + show_net(NET))
            self.refused(NoCommand, f"net {age}\n")
            self.refused(NoCommand, f"net {age}\nnonsense")
            self.refused(NoCommand, f"net {age}")

    def test_without_a_line_feed(self):
        for row in (
                "net", "net ", "net 20", "net 20 ", "net 20 bridge 1", "net 20bridge 1\n", "net 20 \nbridge 1\n", "net\n",
                "net\nbridge 1\n", "net 20\tbridge 1\n", "net  20\nbridge 1\n", " net 20\nbridge 1\n", "net 20\r\nbridge 1\n",
                "Net 20\nbridge 1\n", "NET 20\nbridge 1\n", "net 20 20\nbridge 1\n", "net\t20\nbridge 1\n",
                "nets 20\nbridge 1\n", "\nnet 20\nbridge 1\n", "net20\nbridge 1\n"):
            self.refused(NoCommand, row)

    def test_no_nets_text_behind_a_good_age(self):
        for text in (
                "", "\n", "nonsense", "bridge 1", "bridge 1\n\n", "\nbridge 1\n", " bridge 1\n", "bridge 01\n", "bridge 1000\n",
                "bridge 2\nbridge 1\n", "bridge 1\nbridge 1\n", "bridge 1\nbridge 2\ntie 2 1 3\n", "tie 1 2 3\n",
                "bridge 1\nbridge 2\ntie 1 2 0\n", "bridge 1\nbridge 2\ntie 1 2 1001\n", "bridge 1\nbridge 2\ntie 1 3 1\n",
                "bridge 1\ntie 1 1 1\n", "bridge 1\nbridge 2\ntie 1 2 3", "bridge " + "1" * 5000 + "\n", "bridge 1\r\n",
                "bridge\t1\n", "Bridge 1\n", "tick 1\n", "net 20\nbridge 1\n", show_net(NET) + "tick 1\n",
                "".join(f"bridge {k}\n" for k in range(11)),
                "bridge 1\nbridge 2\n" + "tie 1 2 3\n" * 17):
            self.refused(NoNet, "net 20\n" + text)


class RowsTest(unittest.TestCase):

    def test_ahead_of_a_yard(self):
        for row in (
                "tick 1", "come 0", "lost 0", "fall bridge 1", "fall tie 0", "back bridge 1", "back tie 0", "quiet 1",
                "quiet 0", "ways", "label 1", "road", "frame 1", "", "nonsense", "quiet 301"):
            with self.assertRaises(NoCommand):
                Desk().say(row)

    def test_deeds(self):
        desk = desk_with_net()
        for row, letters in (
                ("tick 1", "2"), ("come 0", "1"), ("lost 0", "0"), ("tick 2", "2"), ("fall bridge 9", "2"),
                ("fall tie 2", "2"), ("back bridge 9", "2"), ("back tie 2", "2")):
            self.assertEqual(desk.say(row), "ok")
            self.assertEqual(desk.say("road"), letters)
        self.assertEqual(desk.say("label 2"), "1 4 0")

    def test_quiet(self):
        desk = desk_with_net()
        self.assertEqual(desk.say("quiet 0"), "not yet")
        self.assertEqual(desk.say("quiet 1"), "not yet")
        self.assertEqual(desk.say("label 2"), "2 0 -")
        self.assertEqual(desk.say("quiet 1"), "not yet")
        self.assertEqual(desk.say("label 2"), "1 4 0")
        self.assertEqual(desk.say("quiet 40"), "settled")
        self.assertEqual(desk.say("quiet 0"), "settled")
        self.assertEqual(desk.say("quiet 300"), "settled")
        self.assertEqual(desk.say("fall bridge 1"), "ok")
        self.assertEqual(desk.say("quiet 0"), "not yet")
        self.assertEqual(desk.say("quiet 42"), "settled")
        self.assertEqual(desk.say("label 9"), "2 11 3")

    def test_quiet_is_so_many_rounds(self):
        for many in (1, 2, 3, 5, 30):
            one, other = desk_with_net(), desk_with_net()
            one.say(f"quiet {many}")
            for k in range(many):
                other.say("quiet 1")
            self.assertEqual(seen_of_desk(one), seen_of_desk(other))

    def test_ways(self):
        desk = desk_with_net()
        self.assertEqual(desk.say("ways"), "none")
        desk.say("quiet 42")
        self.assertEqual(desk.say("ways"), "0 1 3")
        desk.say("fall tie 1")
        self.assertEqual(desk.say("ways"), "0 3")
        desk.say("fall bridge 9")
        self.assertEqual(desk.say("ways"), "0")

    def test_label(self):
        desk = settled_desk()
        self.assertEqual([desk.say(f"label {k}") for k in NET[0]], ["1 0 -", "1 4 0", "1 5 1", "1 15 3"])
        desk.say("fall bridge 2")
        self.assertEqual(desk.say("label 2"), "down")
        desk.say("back bridge 2")
        self.assertEqual(desk.say("label 2"), "2 0 -")
        for number in ("0", "3", "8", "10", "999", "999999"):
            with self.assertRaises(NoCommand):
                desk.say(f"label {number}")

    def test_road(self):
        desk = desk_with_net()
        self.assertEqual(desk.say("road"), "0")
        for k in range(6):
            desk.say("tick 5")
        self.assertEqual(desk.say("road"), "18")

    def test_frame(self):
        desk = desk_with_net()
        self.assertEqual(desk.say("frame 5"), "5")
        desk.say("quiet 42")
        self.assertEqual([desk.say(f"frame {k}") for k in NET[0]], ["1 2 5 9", "2 1 5 9", "5 2 9 1", "9 5 2 1"])
        desk.say("fall bridge 2")
        self.assertEqual(desk.say("frame 9"), "9 5")
        for number in ("2", "0", "3", "999999"):
            with self.assertRaises(NoFrame):
                desk.say(f"frame {number}")

    def test_texts_are_told(self):
        desk = settled_desk()
        for row in ("ways", "road", "label 1", "frame 1", "quiet 0", "tick 1", NET_ROW):
            self.assertIs(type(desk.say(row)), str)

    def test_two_desks_have_nothing_in_common(self):
        one, other = settled_desk(), settled_desk()
        one.say("fall bridge 1")
        self.assertEqual(seen_of_desk(other), seen_of_desk(settled_desk()))


class RefusedTest(unittest.TestCase):

    def setUp(self):
        self.desk = settled_desk()
        for row in ("tick 1", "fall bridge 9", "fall tie 2"):
            self.desk.say(row)
        self.seen = seen_of_desk(self.desk)
        self.assertEqual(self.desk.say("road"), "2")

    def refused(self, error, row):
        with self.assertRaises(error, msg=repr(row)[:100]):
            self.desk.say(row)

    def tearDown(self):
        self.assertEqual(seen_of_desk(self.desk), self.seen)
        other = settled_desk()
        for row in ("tick 1", "fall bridge 9", "fall tie 2"):
            other.say(row)
        for row in ("come 1", "back bridge 9", "tick 2", "quiet 1", "back tie 2", "come 0", "quiet 2"):
            told = []
            for desk in (self.desk, other):
                try:
                    told.append((desk.say(row), seen_of_desk(desk)))
                except NoDeed:
                    told.append(None)
            self.assertEqual(told[0], told[1])

    def test_no_texts(self):
        for thing in NO_NUMBERS + (b"ways", ["ways"], ("tick", 1), {"ways": 1}, 1):
            if not isinstance(thing, str):
                self.refused(NoCommand, thing)

    def test_no_rows(self):
        for row in (
                "", " ", "\n", "way", "ways ", " ways", "ways 1", "Ways", "WAYS", "ways\n", "\nways", "road ", "road 1", "Road",
                "road\n", "roads", "quiet", "quiet ", "quiet 1 1", "Quiet 1", "quiet  1", " quiet 1", "label", "label ",
                "label 1 2", "Label 1", "labels 1", "label bridge 1", "frame", "frame ", "frame 1 2", "Frame 1", "frames 1",
                "tick", "tick ", "tick 1 1", "tick bridge 1", "Tick 1", "tock 1", "tick  1", " tick 1", "tick 1 ",
                "tick 1\n", "tick 1\ntick 1", "tick 1\ntick 1\n", "\ntick 1", "tick\t1", "tick\n1", "come", "come tie 0",
                "lost", "fall", "fall 0", "fall bridge", "fall way 0", "fall Bridge 1", "fall bridge  1", "fall tie 0 0",
                "back", "back 0", "back tie", "back\ttie 2", "arrive 0", "drop 0", "settled", "none", "ok", "help", "?",
                "bridge 1", "tie 1 2 3", "quiet one", "label one", "frame None", "tick True", "net", "nonsense\n" * 50):
            self.refused(NoCommand, row)

    def test_no_numbers(self):
        for word in NO_NUMERALS:
            for row in (
                    "tick", "come", "lost", "fall bridge", "fall tie", "back bridge", "back tie", "quiet", "label", "frame"):
                self.refused(NoCommand, f"{row} {word}")

    def test_rounds(self):
        for many in (301, 302, 999, 1000, 999999):
            self.refused(NoCommand, f"quiet {many}")

    def test_bridges_that_are_not_in_the_net(self):
        for number in (0, 3, 4, 8, 10, 999, 1000, 999999):
            self.refused(NoCommand, f"label {number}")
            self.refused(NoFrame, f"frame {number}")
            self.refused(NoDeed, f"tick {number}")
            self.refused(NoDeed, f"fall bridge {number}")
            self.refused(NoDeed, f"back bridge {number}")

    def test_no_deeds(self):
        for row in (
                "tick 9", "fall bridge 9", "back bridge 1", "fall tie 2", "fall tie 4", "back tie 0", "back tie 3",
                "come 2", "lost 2", "come 999999", "lost 999999"):
            self.refused(NoDeed, row)

    def test_no_frame(self):
        self.refused(NoFrame, "frame 9")

    def test_refused_nets(self):
        self.refused(NoCommand, "net 3\n" + show_net(NET))
        self.refused(NoCommand, "net 20")
        self.refused(NoNet, "net 20\n")
        self.refused(NoNet, "net 20\nbridge 1")


def told_of_model(model):
    """What a desk answers of such a yard, by point 41's words."""
    ways = [str(place) for place, child, parent in model.open_ways()]
    rows = [" ".join(ways) or "none", str(len(model.road)), "settled" if model.is_settled() else "not yet"]
    for number in model.net[0]:
        if number in model.bridges:
            root, cost, over = model.bridges[number].label[:3]
            rows.append(f"{root} {cost} " + ("-" if over is None else str(over)))
        else:
            rows.append("down")
    return rows


class ManyMomentsTest(unittest.TestCase):

    def test_against_the_model(self):
        for seed in range(40):
            chance = random.Random(seed)
            net = drawn_net(chance)
            greatest = chance.choice((4, 10, 40, 200))
            desk, model = Desk(), ModelYard(net, greatest)
            self.assertEqual(desk.say(f"net {greatest}\n" + show_net(net)), "ok")
            for turn in range(100):
                if chance.random() < 0.05:
                    many = chance.randint(0, 3)
                    for k in range(many):
                        model.quiet_round()
                    self.assertEqual(desk.say(f"quiet {many}"), "settled" if model.is_settled() else "not yet")
                else:
                    deed = drawn_deed(chance, net, model.down(), len(model.road), 0.05)
                    model.deed(deed)
                    self.assertEqual(desk.say(show_deeds([deed])[:-1]), "ok")
                self.assertEqual(seen_of_desk(desk, net), told_of_model(model))

    def test_forty_thousand_deeds(self):
        chance = random.Random(1)
        net = drawn_net(chance, 10, 16)
        desk, yard = Desk(), Yard(net, 40)
        desk.say("net 40\n" + show_net(net))
        for deed in drawn_yard_deeds(chance, yard, 20000, 0.01):
            desk.say(" ".join(str(part) for part in deed))
        self.assertEqual(desk.say("road"), str(len(yard.road())))
        for number, label in yard.labels():
            self.assertEqual(desk.say(f"label {number}").split(" ")[:2], [str(label[0]), str(label[1])])
        self.assertEqual(desk.say("quiet 300"), "settled")


if __name__ == "__main__":
    unittest.main()

"""Nets as they are written and read back (point 6)."""

import random
import re
import unittest

from shutways.errors import NoNet
from shutways.nets import make_net
from shutways.nettexts import read_net, show_net

NET = ((0, 7, 10, 999), ((7, 10, 20), (0, 999, 1000), (0, 7, 1), (7, 10, 20)))
TEXT = (
    "bridge 0\nbridge 7\nbridge 10\nbridge 999\n"
    "tie 7 10 20\ntie 0 999 1000\ntie 0 7 1\ntie 7 10 20\n")

NUMBER = "(0|[1-9][0-9]{0,3})"
BRIDGE = re.compile(f"bridge {NUMBER}")
TIE = re.compile(f"tie {NUMBER} {NUMBER} {NUMBER}")


def plainly_read(text):
    """The net of a text by point 6's words alone, or None."""
    if not text.endswith("\n"):
        return None
    bridges = []
    ties = []
    for line in text[:-1].split("\n"):
        bridge = BRIDGE.fullmatch(line)
        tie = TIE.fullmatch(line)
        if bridge and not ties:
            bridges.append(int(bridge[1]))
        elif tie:
            ties.append((int(tie[1]), int(tie[2]), int(tie[3])))
        else:
            return None
    if not 1 <= len(bridges) <= 10 or len(ties) > 16:
        return None
    if bridges != sorted(set(bridges)) or max(bridges) > 999:
        return None
    for one, other, cost in ties:
        if one >= other or one not in bridges or other not in bridges or not 1 <= cost <= 1000:
            return None
    return (tuple(bridges), tuple(ties))


def some_net(chance):
    bridges = chance.sample(range(1000), chance.randint(1, 10))
    ties = []
    if len(bridges) > 1:
        for place in range(chance.randint(0, 16)):
            one, other = chance.sample(bridges, 2)
            ties.append((one, other, chance.choice([1, 2, 9, 10, 99, 100, 999, 1000])))
    return make_net(bridges, ties)


class ShownTest(unittest.TestCase):

    def test_line_by_line(self):
        self.assertEqual(show_net(NET), TEXT)

    def test_one_bridge(self):
        self.assertEqual(show_net(make_net([0], [])), "bridge 0\n")
        self.assertEqual(show_net(make_net([999], [])), "bridge 999\n")

    def test_ties_in_the_order_of_their_places(self):
        net = make_net([2, 1], [(2, 1, 9), (1, 2, 3), (1, 2, 9)])
        self.assertEqual(show_net(net), "bridge 1\nbridge 2\ntie 1 2 9\ntie 1 2 3\ntie 1 2 9\n")


class ReadBackTest(unittest.TestCase):

    def test_just_that_net(self):
        self.assertEqual(read_net(TEXT), NET)
        self.assertEqual(read_net("bridge 0\n"), ((0,), ()))
        self.assertEqual(
            read_net("bridge 1\nbridge 2\ntie 1 2 9\ntie 1 2 3\n"), ((1, 2), ((1, 2, 9), (1, 2, 3))))

    def test_kinds(self):
        net = read_net(TEXT)
        self.assertIs(type(net), tuple)
        self.assertIs(type(net[0]), tuple)
        self.assertIs(type(net[1]), tuple)
        self.assertTrue(all(type(tie) is tuple for tie in net[1]))
        self.assertTrue(all(type(number) is int for number in net[0] + net[1][0]))

    def test_the_greatest_net(self):
        net = make_net(list(range(990, 1000)), [(990, 999, 985 + k) for k in range(16)])
        self.assertEqual(len(show_net(net).split("\n")), 27)
        self.assertEqual(read_net(show_net(net)), net)

    def test_every_number_and_cost(self):
        for number in range(1000):
            self.assertEqual(read_net(f"bridge {number}\n"), ((number,), ()))
        for cost in range(1, 1001):
            text = f"bridge 3\nbridge 4\ntie 3 4 {cost}\n"
            self.assertEqual(read_net(text), ((3, 4), ((3, 4, cost),)))

    def test_many_nets(self):
        chance = random.Random(6)
        for turn in range(500):
            net = some_net(chance)
            self.assertEqual(read_net(show_net(net)), net)
            self.assertEqual(plainly_read(show_net(net)), net)


class RefusedTest(unittest.TestCase):

    def refused(self, text):
        self.assertIsNone(plainly_read(text), repr(text)[:200])
        with self.assertRaises(NoNet, msg=repr(text)[:200]):
            read_net(text)

    def test_no_signs_at_all(self):
        self.refused("")

    def test_line_feeds(self):
        self.refused("\n")
        self.refused("bridge 0")
        self.refused(TEXT[:-1])
        self.refused(TEXT + "\n")
        self.refused("\n" + TEXT)
        self.refused(TEXT.replace("\n", "\n\n", 1))
        self.refused(TEXT.replace("\ntie", "\n\ntie", 1))
        self.refused(TEXT.replace("\n", "", 1))
        self.refused(TEXT.replace("\n", " ", 1))
        self.refused(TEXT.replace("\n", "\r\n"))
        self.refused(TEXT.replace("\n", "\r"))
        self.refused("bridge\n0\n")

    def test_row_ends_of_other_kinds(self):
        for sign in ("\x0b", "\x0c", "\x1c", "\x1d", "\x1e", "\x85", "\u2028", "\u2029"):
            self.refused(TEXT.replace("\n", sign))
            self.refused(TEXT.replace("\n", sign, 1))
            self.refused(TEXT[:-1] + sign)

    def test_blanks(self):
        for text in (
                " bridge 0\n", "bridge  0\n", "bridge 0 \n", "bridge0\n", "bridge 0\n ",
                "bridge\n", "bridge \n", " \n", " "):
            self.refused(text)
        both = "bridge 1\nbridge 2\n"
        for line in (
                " tie 1 2 3", "tie  1 2 3", "tie 1  2 3", "tie 1 2  3", "tie 1 2 3 ", "tie1 2 3",
                "tie 12 3", "tie 1 23", "tie 123", "tie", "tie "):
            self.refused(both + line + "\n")

    def test_tabs(self):
        for text in ("bridge\t0\n", "\tbridge 0\n", "bridge 0\t\n", "bridge 0\n\t", "bridge \t0\n"):
            self.refused(text)
        self.refused("bridge 1\nbridge 2\ntie 1\t2 3\n")

    def test_signs_ahead_and_behind(self):
        for sign in ("x", "0", "#", "-", "\x00", "\ufeff", "\u00e9", "~"):
            self.refused(sign + TEXT)
            self.refused(TEXT + sign)
            self.refused(TEXT + sign + "\n")

    def test_numbers(self):
        for word in (
                "00", "01", "007", "0000", "+1", "-1", "-0", "+0", "1_0", "_1", "1_", "1.0", "1e2", "0x1",
                "a", "one", "True", "None", "1,", "\u0661", "\u00b2", "\uff11", "1000", "1001", "9999",
                "10000", "123456", "1" * 5000, "9" * 100000, "0" * 5000, "0" * 4999 + "1"):
            self.refused(f"bridge {word}\n")
            self.refused(f"bridge 1\nbridge {word}\n")

    def test_ends_of_ties(self):
        for word in ("01", "+1", "-1", "1_0", "\u0661", "0001", "1" * 5000, "0" * 5000 + "1", "x", ""):
            self.refused(f"bridge 0\nbridge 1\nbridge 10\ntie 0 {word} 5\n")
            self.refused(f"bridge 1\nbridge 10\nbridge 20\ntie {word} 20 5\n")

    def test_costs(self):
        for word in ("0", "00", "05", "0005", "+5", "-5", "1_0", "1001", "9999", "10000", "5" * 5000, "\u0665", ""):
            self.refused(f"bridge 0\nbridge 1\ntie 0 1 {word}\n")

    def test_other_words(self):
        for text in (
                "Bridge 0\n", "BRIDGE 0\n", "bridges 0\n", "bridg 0\n", "0\n", "0 bridge\n", "net\n",
                "bridge 0 1\n", "bridge 0 0 1\n", "bridge 0\nbridge 1\nTie 0 1 1\n",
                "bridge 0\nbridge 1\nties 0 1 1\n", "bridge 0\nbridge 1\ntie 0 1\n",
                "bridge 0\nbridge 1\ntie 0 1 1 1\n", "bridge 0\nbridge 1\nbridge 0 1 1\n",
                "bridge 0\nbridge 1\ntie 0\n", "bridge 0\nbridge 1\n# tie 0 1 1\n"):
            self.refused(text)

    def test_order_of_lines(self):
        self.refused("tie 0 1 1\nbridge 0\nbridge 1\n")
        self.refused("bridge 0\ntie 0 1 1\nbridge 1\n")
        self.refused("bridge 0\nbridge 1\ntie 0 1 1\nbridge 2\n")

    def test_bridges_not_rising_or_twice(self):
        self.refused("bridge 1\nbridge 0\n")
        self.refused("bridge 0\nbridge 2\nbridge 1\n")
        self.refused("bridge 10\nbridge 9\n")
        self.refused("bridge 1\nbridge 1\n")
        self.refused("bridge 0\nbridge 1\nbridge 0\n")

    def test_one_not_less_than_other(self):
        self.refused("bridge 0\nbridge 1\ntie 1 0 5\n")
        self.refused("bridge 0\nbridge 1\ntie 1 1 5\n")
        self.refused("bridge 9\nbridge 10\ntie 10 9 5\n")

    def test_ties_with_a_bridge_that_is_not_there(self):
        self.refused("bridge 0\nbridge 1\ntie 0 2 5\n")
        self.refused("bridge 1\nbridge 2\ntie 0 1 5\n")
        self.refused("bridge 0\ntie 0 1 5\n")

    def test_too_many(self):
        eleven = "".join(f"bridge {k}\n" for k in range(11))
        self.refused(eleven)
        self.refused(eleven + "tie 0 1 1\n")
        self.refused("bridge 0\nbridge 1\n" + "tie 0 1 1\n" * 17)
        self.refused("".join(f"bridge {k}\n" for k in range(1000)))
        self.refused("bridge 0\n" * 100000)

    def test_no_bridge(self):
        self.refused("tie 0 1 1\n")
        self.refused("tie 0 1 1\n" * 16)


class AnyTextTest(unittest.TestCase):

    def judged_alike(self, text):
        """True where both read a net; the answers are held against each other."""
        wanted = plainly_read(text)
        if wanted is None:
            with self.assertRaises(NoNet, msg=repr(text)[:200]):
                read_net(text)
        else:
            self.assertEqual(read_net(text), wanted, repr(text)[:200])
            self.assertEqual(show_net(wanted), text)
        return wanted is not None

    def test_one_sign_more_less_or_another(self):
        signs = " \n\t0129+-_btx~\r\u0661"
        read = 0
        for k in range(len(TEXT) + 1):
            read += self.judged_alike(TEXT[:k] + TEXT[k + 1:])
            read += self.judged_alike(TEXT[:k])
            read += self.judged_alike(TEXT[k:])
            for sign in signs:
                read += self.judged_alike(TEXT[:k] + sign + TEXT[k:])
                read += self.judged_alike(TEXT[:k] + sign + TEXT[k + 1:])
        self.assertGreater(read, 10)

    def test_lines_drawn_by_chance(self):
        chance = random.Random(38)
        lines = ["bridge 0\n", "bridge 1\n", "bridge 2\n", "tie 0 1 5\n", "tie 1 2 5\n", "tie 1 0 5\n", "tie 0 2 1000\n"]
        read = 0
        for turn in range(5000):
            text = "".join(chance.choice(lines) for k in range(chance.randint(0, 5)))
            read += self.judged_alike(text)
        self.assertGreater(read, 50)


if __name__ == "__main__":
    unittest.main()

"""A learner: stations at a yard's bridges, and notes of the ties by which they are come to."""

from shutways.errors import NoFrame
from shutways.frames import part_of, sent_on
from shutways.nets import make_net
from shutways.wholes import is_whole
from shutways.ways import open_ways


class Learner:

    def __init__(self, yard, stations, whole):
        self.yard = yard
        self.lets_go_whole = whole
        self.homes = {}
        for name, bridge in stations:
            self.homes[name] = bridge
        self.noted = {}
        for number in yard.net()[0]:
            self.noted[number] = {}

    def frame(self, one, other):
        if not self.is_station(one) or not self.is_station(other):
            raise NoFrame("no station has this name")
        if self.yard.bridge(self.homes[one]) is None:
            raise NoFrame("the sender's bridge is down")
        ways = open_ways(self.yard)
        having = [(self.homes[one], None)]
        sent = 0
        while sent < len(having):
            self.note(having[sent], one)
            having.extend(self.goals(ways, having[sent], other))
            sent += 1
        return having

    def is_station(self, thing):
        return isinstance(thing, str) and thing in self.homes

    def note(self, had, sender):
        bridge, place = had
        if self.homes[sender] != bridge:
            self.noted[bridge][sender] = place

    def goals(self, ways, had, receiver):
        bridge = had[0]
        if self.homes[receiver] == bridge:
            return []
        goals = sent_on(ways, had)
        if receiver not in self.noted[bridge]:
            return goals
        return [goal for goal in goals if goal[1] == self.noted[bridge][receiver]]

    def deed(self, some):
        ahead = self.open_ends()
        self.yard.deed(some)
        behind = self.open_ends()
        for bridge in list(self.noted):
            if ahead[bridge] != behind[bridge]:
                self.let_go_around(bridge)
        if some[:2] in (("fall", "bridge"), ("back", "bridge")):
            self.noted[some[2]] = {}

    def open_ends(self):
        found = {}
        for number in self.noted:
            found[number] = []
        for place, tie in enumerate(self.yard.net()[1]):
            for number, end in zip(tie[:2], self.yard.ends(place)):
                if end in ("child", "parent"):
                    found[number].append((place, end))
        return found

    def let_go_around(self, bridge):
        self.noted[bridge] = {}
        if self.lets_go_whole and self.yard.bridge(bridge) is not None:
            for member in part_of(self.yard, bridge):
                self.noted[member] = {}

    def notes(self, bridge):
        if not is_whole(bridge):
            return []
        return sorted(self.noted.get(bridge, {}).items())


def lost_row():
    # Settled, bridge 3 is come to by way of 2, and bridge 1 notes so. Then 3
    # turns to 4. Bridge 1 is parent to 2 and to 4 all the while: none of its
    # ends turns, so it keeps a note that leads away from where 3 is now.
    net = make_net([1, 2, 3, 4], [(1, 2, 1), (2, 3, 1), (3, 4, 1), (4, 1, 1)])
    row = quiet_deeds(net[0], 4) * 4
    row.extend([("frame", "far", "near"), ("fall", "tie", 1)])
    row.extend(quiet_deeds(net[0], 3) * 2)
    row.append(("frame", "near", "far"))
    return (net, 16, [("near", 1), ("far", 3)], row)


def quiet_deeds(bridges, ties_up):
    # Over each tie that is up a letter goes both ways.
    return [("tick", number) for number in bridges] + [("come", 0)] * (2 * ties_up)

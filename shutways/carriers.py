"""A carrier: frames on their way over a yard's open ways, while the yard goes on."""

from shutways.errors import NoDeed, NoFrame
from shutways.frames import is_standing, sent_on
from shutways.wholes import is_whole, is_whole_between
from shutways.ways import is_open_way, open_ways


class Carrier:

    def __init__(self, yard):
        self.yard = yard
        self.frames_sent = 0
        self.line = []
        self.had_by_bridge = {}
        for number in yard.net()[0]:
            self.had_by_bridge[number] = []

    def send(self, bridge):
        if not is_standing(self.yard, bridge):
            raise NoFrame("no bridge of this number is up")
        number = self.frames_sent
        self.frames_sent += 1
        self.have(bridge, None, number)
        return number

    def have(self, bridge, came_over, number):
        self.had_by_bridge[bridge].append((number, came_over))
        for goal, place in sent_on(open_ways(self.yard), (bridge, came_over)):
            stamps = (self.yard.bridge(bridge).stamp(), self.yard.bridge(goal).stamp())
            self.line.append((bridge, goal, place, number) + stamps)

    def deed(self, some):
        if not is_line_deed(some):
            self.yard.deed(some)
            return
        word, place = some
        if not is_whole_between(place, 0, len(self.line) - 1):
            raise NoDeed("no frame is on its way at this place")
        start, goal, tie, number, start_stamp, goal_stamp = self.line.pop(place)
        if word == "arrive" and self.goes_on(start, goal, tie, (start_stamp, goal_stamp)):
            self.have(goal, tie, number)

    def goes_on(self, start, goal, tie, stamps):
        if not is_open_way(self.yard, tie):
            return False
        return stamps == (self.yard.bridge(start).stamp(), self.yard.bridge(goal).stamp())

    def under_way(self):
        return list(self.line)

    def came(self, bridge):
        if not is_whole(bridge):
            return []
        return list(self.had_by_bridge.get(bridge, []))


def is_line_deed(some):
    if not isinstance(some, tuple) or len(some) != 2:
        return False
    # A thing of another kind may hold itself for a word, so its kind is asked first.
    return isinstance(some[0], str) and some[0] in ("arrive", "drop")

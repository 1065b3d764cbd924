"""The plain tree, bridges, yards and open ways once more, from the document's words alone.

The tests hold the program against these, deed by deed.
"""

import itertools


def plainly_told(net, down):
    """The plain tree by point 8's words, from the costs between all pairs."""
    standing = [bridge for bridge in net[0] if bridge not in down[0]]
    ties = [
        (place, tie) for place, tie in enumerate(net[1])
        if place not in down[1] and tie[0] in standing and tie[1] in standing]
    far = 10 ** 9
    costs = {pair: 0 if pair[0] == pair[1] else far for pair in itertools.product(standing, repeat=2)}
    for place, (one, other, cost) in ties:
        costs[one, other] = costs[other, one] = min(cost, costs[one, other])
    for middle in standing:
        for one, other in itertools.product(standing, repeat=2):
            costs[one, other] = min(costs[one, other], costs[one, middle] + costs[middle, other])
    rows = []
    for bridge in standing:
        root = min(other for other in standing if costs[bridge, other] < far)
        ups = []
        for place, tie in ties:
            if bridge in tie[:2]:
                near = tie[0] + tie[1] - bridge
                ups.append((costs[near, root] + tie[2], near, place))
        up = None if root == bridge else min(ups)[2]
        rows.append((bridge, root, costs[bridge, root], up))
    return rows


class ModelBridge:

    def __init__(self, number, life, ties, greatest):
        self.number, self.life, self.greatest = number, life, greatest
        self.ties = {place: (neighbour, cost) for place, neighbour, cost in ties}
        self.letters = {}
        self.ages = {}
        self.label = (number, 0, None, None)
        self.version = 0
        self.count = 0

    def stamp(self):
        return (self.life, self.version)

    def held(self, place):
        return (self.letters[place], self.ages[place]) if place in self.letters else None

    def up(self, place, neighbour, cost):
        self.ties.setdefault(place, (neighbour, cost))

    def down(self, place):
        for kept in (self.ties, self.letters, self.ages):
            kept.pop(place, None)

    def hear(self, place, letter):
        if place in self.ties:
            if place not in self.letters or self.letters[place][0] < letter[0]:
                self.letters[place] = letter
                self.ages[place] = letter[4]

    def tick(self):
        for place in list(self.letters):
            self.ages[place] += 1
            if self.ages[place] >= self.greatest:
                del self.letters[place], self.ages[place]
        # Itself first of its own number: a nought ahead of the cost.
        best = ((self.number, 0, 0, 0, 0), (self.number, 0, None, None))
        for place, letter in self.letters.items():
            neighbour, cost = self.ties[place]
            total = letter[3] + cost
            offer = ((letter[2], 1, total, neighbour, place), (letter[2], total, place, letter[1]))
            best = min(best, offer, key=lambda pair: pair[0])
        if best[1] != self.label:
            self.label = best[1]
            self.version += 1
        out = [(place, self.letter(place)) for place in sorted(self.ties)]
        self.count += 1
        return out

    def letter(self, place):
        root, cost, over, rests = self.label
        age = 0
        if over is not None:
            age = self.ages[over] + 1
        agrees = None
        if place != over and place in self.letters and self.letters[place][5] == self.stamp():
            agrees = self.letters[place][1]
        return (
            (self.life, self.count), self.stamp(), root, cost, age,
            rests if place == over else None, agrees)

    def end(self, place):
        if place not in self.ties:
            return "down"
        letter = self.letters.get(place)
        if letter is not None:
            if place == self.label[2]:
                if letter[6] == self.stamp() and letter[1] == self.label[3]:
                    return "child"
            elif letter[5] == self.stamp():
                return "parent"
        return "shut"


class ModelYard:

    def __init__(self, net, greatest):
        self.net, self.greatest = net, greatest
        self.lives = {number: 0 for number in net[0]}
        self.fallen_bridges = set()
        self.fallen_ties = set()
        self.road = []
        self.bridges = {
            number: ModelBridge(number, 0, self.ties_for(number), greatest) for number in net[0]}

    def ties_for(self, number):
        found = []
        for place, (one, other, cost) in enumerate(self.net[1]):
            if number in (one, other) and self.is_up(place):
                found.append((place, one + other - number, cost))
        return found

    def is_up(self, place):
        one, other, cost = self.net[1][place]
        return place not in self.fallen_ties and not {one, other} & self.fallen_bridges

    def down(self):
        return (tuple(sorted(self.fallen_bridges)), tuple(sorted(self.fallen_ties)))

    def deed(self, some):
        """Only of deeds that can be done."""
        word = some[0]
        if word == "tick":
            for place, letter in self.bridges[some[1]].tick():
                one, other, cost = self.net[1][place]
                self.road.append((some[1], one + other - some[1], place, letter))
        elif word == "lost":
            del self.road[some[1]]
        elif word == "come":
            start, goal, place, letter = self.road.pop(some[1])
            if self.is_up(place):
                self.bridges[goal].hear(place, letter)
        else:
            self.fall_or_back(some)

    def fall_or_back(self, some):
        fallen = self.fallen_bridges if some[1] == "bridge" else self.fallen_ties
        ahead = [place for place in range(len(self.net[1])) if self.is_up(place)]
        if some[0] == "fall":
            fallen.add(some[2])
        else:
            fallen.remove(some[2])
        if some[:2] == ("fall", "bridge"):
            del self.bridges[some[2]]
        if some[:2] == ("back", "bridge"):
            self.lives[some[2]] += 1
            self.bridges[some[2]] = ModelBridge(
                some[2], self.lives[some[2]], self.ties_for(some[2]), self.greatest)
        for place, (one, other, cost) in enumerate(self.net[1]):
            for number in (one, other):
                if number in self.bridges and place in ahead and not self.is_up(place):
                    self.bridges[number].down(place)
                if number in self.bridges and place not in ahead and self.is_up(place):
                    self.bridges[number].up(place, one + other - number, cost)

    def ends(self, place):
        one, other, cost = self.net[1][place]
        if not self.is_up(place):
            return ("down", "down")
        return (self.bridges[one].end(place), self.bridges[other].end(place))

    def open_ways(self):
        told = []
        for place, (one, other, cost) in enumerate(self.net[1]):
            if self.is_up(place):
                if (self.bridges[one].end(place), self.bridges[other].end(place)) == ("child", "parent"):
                    told.append((place, one, other))
                if (self.bridges[one].end(place), self.bridges[other].end(place)) == ("parent", "child"):
                    told.append((place, other, one))
        return told

    def quiet_round(self):
        for number in sorted(self.bridges):
            self.deed(("tick", number))
        while self.road:
            self.deed(("come", 0))

    def is_settled(self):
        tree = plainly_told(self.net, self.down())
        rows = [(number,) + self.bridges[number].label[:3] for number in sorted(self.bridges)]
        ways = {place for place, child, parent in self.open_ways()}
        return rows == tree and ways == {row[3] for row in tree if row[3] is not None}


class ModelCarrier:
    """Points 27 and 28, over a ModelYard."""

    def __init__(self, yard):
        self.yard = yard
        self.sent = 0
        self.line = []
        self.log = []

    def send(self, bridge):
        self.sent += 1
        self.has(bridge, self.sent - 1, None)
        return self.sent - 1

    def has(self, bridge, number, came):
        self.log.append((bridge, number, came))
        for place, child, parent in sorted(self.yard.open_ways()):
            if bridge in (child, parent) and place != came:
                far = child + parent - bridge
                bridges = self.yard.bridges
                self.line.append((bridge, far, place, number, bridges[bridge].stamp(), bridges[far].stamp()))

    def deed(self, some):
        """Only of deeds that can be done."""
        if some[0] not in ("arrive", "drop"):
            self.yard.deed(some)
            return
        frame = self.line[some[1]]
        self.line = self.line[:some[1]] + self.line[some[1] + 1:]
        if some[0] == "arrive" and frame[2] in [way[0] for way in self.yard.open_ways()]:
            if self.yard.bridges[frame[0]].stamp() == frame[4] and self.yard.bridges[frame[1]].stamp() == frame[5]:
                self.has(frame[1], frame[3], frame[2])

    def came(self, bridge):
        return [(number, came) for there, number, came in self.log if there == bridge]


class ModelLearner:
    """Points 29 and 30, over a ModelYard."""

    def __init__(self, yard, stations, whole):
        self.yard, self.whole = yard, whole
        self.home = dict(stations)
        self.noted = {}

    def frame(self, one, other):
        """Only where it isn't refused."""
        told = [(self.home[one], None)]
        line = [(self.home[one], None)]
        while line:
            here, came = line.pop(0)
            if here != self.home[one]:
                self.noted[here, one] = came
            for place, child, parent in sorted(self.yard.open_ways()):
                if here not in (child, parent) or place == came or here == self.home[other]:
                    continue
                if self.noted.get((here, other), place) == place:
                    told.append((child + parent - here, place))
                    line.append((child + parent - here, place))
        return told

    def ends_open(self):
        """All ends that are child or parent, as (bridge, place, word)."""
        found = set()
        for place, (one, other, cost) in enumerate(self.yard.net[1]):
            for bridge, word in zip((one, other), self.yard.ends(place)):
                if word in ("child", "parent"):
                    found.add((bridge, place, word))
        return found

    def part(self, bridge):
        part = {bridge}
        for turn in self.yard.net[0]:
            for place, child, parent in self.yard.open_ways():
                if child in part or parent in part:
                    part |= {child, parent}
        return part

    def deed(self, some):
        """Only of deeds that can be done."""
        ahead = self.ends_open()
        self.yard.deed(some)
        turned = {bridge for bridge, place, word in ahead ^ self.ends_open()}
        if some[0] in ("fall", "back") and some[1] == "bridge":
            self.let_go({some[2]})
        self.let_go(turned)
        if self.whole:
            for bridge in turned & set(self.yard.bridges):
                self.let_go(self.part(bridge))

    def let_go(self, bridges):
        self.noted = {key: place for key, place in self.noted.items() if key[0] not in bridges}

    def notes(self, bridge):
        return sorted((name, place) for (there, name), place in self.noted.items() if there == bridge)


def seen_of_model(model):
    standing = sorted(model.bridges)
    places = range(len(model.net[1]))
    return (
        list(model.road), model.down(),
        [(number, model.bridges[number].label) for number in standing],
        [(number, model.bridges[number].stamp()) for number in standing],
        [model.ends(place) for place in places],
        [[model.bridges[number].held(place) for place in places] for number in standing])


def seen_of_yard(yard):
    """All that can be looked at of a yard, in the form of seen_of_model."""
    standing = [number for number in yard.net()[0] if yard.bridge(number) is not None]
    places = range(len(yard.net()[1]))
    return (
        yard.road(), yard.down(), yard.labels(), yard.stamps(),
        [yard.ends(place) for place in places],
        [[yard.bridge(number).held(place) for place in places] for number in standing])

"""The plain tree, bridges, yards and open ways once more, from the document's words alone.

The tests hold the program against these, deed by deed.
"""

import itertools


def plainly_told(net, down):
    """The plain tree by point 8's words, from the costs between all pairs."""
    standing = [bridge for bridge in net[0] if bridge not in down[0]]
    ties = [
        (place, tie) for place, tie in enumerate(net[1])
        if place not in down[1] and tie[0] in standing and tie[1] in standing]
    far = 10 ** 9
    costs = {pair: 0 if pair[0] == pair[1] else far for pair in itertools.product(standing, repeat=2)}
    for place, (one, other, cost) in ties:
        costs[one, other] = costs[other, one] = min(cost, costs[one, other])
    for middle in standing:
        for one, other in itertools.product(standing, repeat=2):
            costs[one, other] = min(costs[one, other], costs[one, middle] + costs[middle, other])
    rows = []
    for bridge in standing:
        root = min(other for other in standing if costs[bridge, other] < far)
        ups = []
        for place, tie in ties:
            if bridge in tie[:2]:
                near = tie[0] + tie[1] - bridge
                ups.append((costs[near, root] + tie[2], near, place))
        up = None if root == bridge else min(ups)[2]
        rows.append((bridge, root, costs[bridge, root], up))
    return rows


class ModelBridge:

    def __init__(self, number, life, ties, greatest):
        self.number, self.life, self.greatest = number, life, greatest
        self.ties = {place: (neighbour, cost) for place, neighbour, cost in ties}
        self.letters = {}
        self.ages = {}
        self.label = (number, 0, None, None)
        self.version = 0
        self.count = 0

    def stamp(self):
        return (self.life, self.version)

    def held(self, place):
        return (self.letters[place], self.ages[place]) if place in self.letters else None

    def up(self, place, neighbour, cost):
        self.ties.setdefault(place, (neighbour, cost))

    def down(self, place):
        for kept in (self.ties, self.letters, self.ages):
            kept.pop(place, None)

    def hear(self, place, letter):
        if place in self.ties:
            if place not in self.letters or self.letters[place][0] < letter[0]:
                self.letters[place] = letter
                self.ages[place] = letter[4]

    def tick(self):
        for place in list(self.letters):
            self.ages[place] += 1
            if self.ages[place] >= self.greatest:
                del self.letters[place], self.ages[place]
        # Itself first of its own number: a nought ahead of the cost.
        best = ((self.number, 0, 0, 0, 0), (self.number, 0, None, None))
        for place, letter in self.letters.items():
            neighbour, cost = self.ties[place]
            total = letter[3] + cost
            offer = ((letter[2], 1, total, neighbour, place), (letter[2], total, place, letter[1]))
            best = min(best, offer, key=lambda pair: pair[0])
        if best[1] != self.label:
            self.label = best[1]
            self.version += 1
        out = [(place, self.letter(place)) for place in sorted(self.ties)]
        self.count += 1
        return out

    def letter(self, place):
        root, cost, over, rests = self.label
        age = 0
        if over is not None:
            age = self.ages[over] + 1
        agrees = None
        if place != over and place in self.letters and self.letters[place][5] == self.stamp():
            agrees = self.letters[place][1]
        return (
            (self.life, self.count), self.stamp(), root, cost, age,
            rests if place == over else None, agrees)

    def end(self, place):
        if place not in self.ties:
            return "down"
        letter = self.letters.get(place)
        if letter is not None:
            if place == self.label[2]:
                if letter[6] == self.stamp() and letter[1] == self.label[3]:
                    return "child"
            elif letter[5] == self.stamp():
                return "parent"
        return "shut"


class ModelYard:

    def __init__(self, net, greatest):
        self.net, self.greatest = net, greatest
        self.lives = {number: 0 for number in net[0]}
        self.fallen_bridges = set()
        self.fallen_ties = set()
        self.road = []
        self.bridges = {
            number: ModelBridge(number, 0, self.ties_for(number), greatest) for number in net[0]}

    def ties_for(self, number):
        found = []
        for place, (one, other, cost) in enumerate(self.net[1]):
            if number in (one, other) and self.is_up(place):
                found.append((place, one + other - number, cost))
        return found

    def is_up(self, place):
        one, other, cost = self.net[1][place]
        return place not in self.fallen_ties and not {one, other} & self.fallen_bridges

    def down(self):
        return (tuple(sorted(self.fallen_bridges)), tuple(sorted(self.fallen_ties)))

    def deed(self, some):
        """Only of deeds that can be done."""
        word = some[0]
        if word == "tick":
            for place, letter in self.bridges[some[1]].tick():
                one, other, cost = self.net[1][place]
                self.road.append((some[1], one + other - some[1], place, letter))
        elif word == "lost":
            del self.road[some[1]]
        elif word == "come":
            start, goal, place, letter = self.road.pop(some[1])
            if self.is_up(place):
                self.bridges[goal].hear(place, letter)
        else:
            self.fall_or_back(some)

    def fall_or_back(self, some):
        fallen = self.fallen_bridges if some[1] == "bridge" else self.fallen_ties
        ahead = [place for place in range(len(self.net[1])) if self.is_up(place)]
        if some[0] == "fall":
            fallen.add(some[2])
        else:
            fallen.remove(some[2])
        if some[:2] == ("fall", "bridge"):
            del self.bridges[some[2]]
        if some[:2] == ("back", "bridge"):
            self.lives[some[2]] += 1
            self.bridges[some[2]] = ModelBridge(
                some[2], self.lives[some[2]], self.ties_for(some[2]), self.greatest)
        for place, (one, other, cost) in enumerate(self.net[1]):
            for number in (one, other):
                if number in self.bridges and place in ahead and not self.is_up(place):
                    self.bridges[number].down(place)
                if number in self.bridges and place not in ahead and self.is_up(place):
                    self.bridges[number].up(place, one + other - number, cost)

    def ends(self, place):
        one, other, cost = self.net[1][place]
        if not self.is_up(place):
            return ("down", "down")
        return (self.bridges[one].end(place), self.bridges[other].end(place))

    def open_ways(self):
        told = []
        for place, (one, other, cost) in enumerate(self.net[1]):
            if self.is_up(place):
                if (self.bridges[one].end(place), self.bridges[other].end(place)) == ("child", "parent"):
                    told.append((place, one, other))
                if (self.bridges[one].end(place), self.bridges[other].end(place)) == ("parent", "child"):
                    told.append((place, other, one))
        return told

    def quiet_round(self):
        for number in sorted(self.bridges):
            self.deed(("tick", number))
        while self.road:
            self.deed(("come", 0))

    def is_settled(self):
        tree = plainly_told(self.net, self.down())
        rows = [(number,) + self.bridges[number].label[:3] for number in sorted(self.bridges)]
        ways = {place for place, child, parent in self.open_ways()}
        return rows == tree and ways == {row[3] for row in tree if row[3] is not None}


def seen_of_model(model):
    standing = sorted(model.bridges)
    places = range(len(model.net[1]))
    return (
        list(model.road), model.down(),
        [(number, model.bridges[number].label) for number in standing],
        [(number, model.bridges[number].stamp()) for number in standing],
        [model.ends(place) for place in places],
        [[model.bridges[number].held(place) for place in places] for number in standing])


def seen_of_yard(yard):
    """All that can be looked at of a yard, in the form of seen_of_model."""
    standing = [number for number in yard.net()[0] if yard.bridge(number) is not None]
    places = range(len(yard.net()[1]))
    return (
        yard.road(), yard.down(), yard.labels(), yard.stamps(),
        [yard.ends(place) for place in places],
        [[yard.bridge(number).held(place) for place in places] for number in standing])

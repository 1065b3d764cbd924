"""A yard: a net's bridges, the road with the letters between them, and deeds."""

from shutways.bridges import Bridge
from shutways.errors import NoDeed
from shutways.nets import far_end, neighbours
from shutways.wholes import is_whole

# A deed is one of these rows of words with a number behind it.
DEEDS = (
    ("tick",), ("come",), ("lost",),
    ("fall", "bridge"), ("fall", "tie"), ("back", "bridge"), ("back", "tie"))


class Yard:

    def __init__(self, net, greatest):
        self.net_made_of = net
        self.greatest_age = greatest
        self.lives = {}
        self.standing = {}
        self.ties_fallen = {}
        self.letters_on_road = []
        for number in net[0]:
            self.lives[number] = 0
            self.standing[number] = Bridge(number, 0, neighbours(net, number), greatest)

    def twin(self):
        other = Yard(self.net_made_of, self.greatest_age)
        other.lives = dict(self.lives)
        other.standing = {}
        for number, bridge in self.standing.items():
            other.standing[number] = bridge.twin()
        other.ties_fallen = dict(self.ties_fallen)
        other.letters_on_road = list(self.letters_on_road)
        return other

    def net(self):
        return self.net_made_of

    def greatest(self):
        return self.greatest_age

    def road(self):
        return list(self.letters_on_road)

    def down(self):
        fallen = [number for number in self.net_made_of[0] if number not in self.standing]
        return (tuple(fallen), tuple(sorted(self.ties_fallen)))

    def labels(self):
        return [(number, self.standing[number].label()) for number in sorted(self.standing)]

    def stamps(self):
        return [(number, self.standing[number].stamp()) for number in sorted(self.standing)]

    def bridge(self, number):
        return self.standing.get(number)

    def ends(self, place):
        if not self.has_tie(place):
            return ("down", "down")
        one, other, cost = self.net_made_of[1][place]
        return (self.end_at(one, place), self.end_at(other, place))

    def end_at(self, number, place):
        if number not in self.standing:
            return "down"
        return self.standing[number].end(place)

    def has_tie(self, place):
        return 0 <= place < len(self.net_made_of[1])

    def deed(self, some):
        words, number = read_deed(some)
        if words == ("tick",):
            self.tick_of(number)
        elif words == ("come",):
            self.come(number)
        elif words == ("lost",):
            self.take_off(number)
        elif words == ("fall", "bridge"):
            self.fall_of_bridge(number)
        elif words == ("fall", "tie"):
            self.fall_of_tie(number)
        elif words == ("back", "bridge"):
            self.back_of_bridge(number)
        else:
            self.back_of_tie(number)

    def tick_of(self, number):
        if number not in self.standing:
            raise NoDeed("no bridge of this number is up")
        for place, letter in self.standing[number].tick():
            goal = far_end(self.net_made_of[1][place], number)
            self.letters_on_road.append((number, goal, place, letter))

    def come(self, place):
        start, goal, tie, letter = self.take_off(place)
        # A bridge passes over what comes by a tie that isn't up for it.
        if goal in self.standing:
            self.standing[goal].hear(tie, letter)

    def take_off(self, place):
        if not 0 <= place < len(self.letters_on_road):
            raise NoDeed("the road has no letter at this place")
        return self.letters_on_road.pop(place)

    def fall_of_bridge(self, number):
        if number not in self.standing:
            raise NoDeed("no bridge of this number is up")
        self.standing.pop(number)
        self.set_ties_of(number)

    def fall_of_tie(self, place):
        if not self.has_tie(place) or place in self.ties_fallen:
            raise NoDeed("no tie of this place stands")
        self.ties_fallen[place] = True
        self.set_tie(place)

    def back_of_bridge(self, number):
        if number not in self.lives or number in self.standing:
            raise NoDeed("no bridge of this number has fallen")
        self.lives[number] += 1
        self.standing[number] = Bridge(number, self.lives[number], [], self.greatest_age)
        self.set_ties_of(number)

    def back_of_tie(self, place):
        if place not in self.ties_fallen:
            raise NoDeed("no tie of this place has fallen")
        self.ties_fallen.pop(place)
        self.set_tie(place)

    def set_ties_of(self, number):
        for place, neighbour, cost in neighbours(self.net_made_of, number):
            self.set_tie(place)

    def set_tie(self, place):
        one, other, cost = self.net_made_of[1][place]
        stands = place not in self.ties_fallen and one in self.standing and other in self.standing
        for near, far in ((one, other), (other, one)):
            if stands:
                self.standing[near].up(place, far, cost)
            elif near in self.standing:
                self.standing[near].down(place)


def yard_behind(net, greatest, deeds):
    yard = Yard(net, greatest)
    for some in deeds:
        yard.deed(some)
    return yard


def twin_behind(yard, deed):
    twin = yard.twin()
    twin.deed(deed)
    return twin


def read_deed(some):
    if not isinstance(some, tuple):
        raise NoDeed("a deed is a tuple")
    words = some[:-1]
    # A thing of another kind may hold itself for a word, so its kind is asked first.
    if not all([isinstance(word, str) for word in words]) or words not in DEEDS:
        raise NoDeed("there is no deed of these words")
    if not is_whole(some[-1]):
        raise NoDeed("a deed's number is a whole number")
    return (words, some[-1])

"""A bridge: what it hears, what it sends, and which of its ends it holds open."""

from shutways.letters import AGE, AGREES, COST, RESTS, ROOT, STAMP, newer
from shutways.trees import best_offer


class Bridge:

    def __init__(self, number, life, ties, greatest):
        self.number = number
        self.life = life
        self.age_let_go = greatest
        self.ties_by_place = {}
        for place, neighbour, cost in ties:
            self.ties_by_place[place] = (neighbour, cost)
        self.held_by_place = {}
        self.label_now = (number, 0, None, None)
        self.version = 0
        self.ticks_had = 0

    def twin(self):
        other = Bridge(self.number, self.life, [], self.age_let_go)
        other.ties_by_place = dict(self.ties_by_place)
        other.held_by_place = dict(self.held_by_place)
        other.label_now = self.label_now
        other.version = self.version
        other.ticks_had = self.ticks_had
        return other

    def label(self):
        return self.label_now

    def stamp(self):
        return (self.life, self.version)

    def held(self, place):
        return self.held_by_place.get(place)

    def up(self, place, neighbour, cost):
        if place not in self.ties_by_place:
            self.ties_by_place[place] = (neighbour, cost)

    def down(self, place):
        self.ties_by_place.pop(place, None)
        self.held_by_place.pop(place, None)

    def hear(self, place, letter):
        if place not in self.ties_by_place:
            return
        held = self.held(place)
        if held is None or newer(letter, held[0]):
            self.held_by_place[place] = (letter, letter[AGE])

    def tick(self):
        self.let_grow_older()
        self.take_label(self.reckon_label())
        letters = [(place, self.letter_over(place)) for place in sorted(self.ties_by_place)]
        self.ticks_had += 1
        return letters

    def let_grow_older(self):
        older = {}
        for place, held in self.held_by_place.items():
            if held[1] + 1 < self.age_let_go:
                older[place] = (held[0], held[1] + 1)
        self.held_by_place = older

    def reckon_label(self):
        offers = []
        for place, held in self.held_by_place.items():
            neighbour, cost = self.ties_by_place[place]
            offers.append((held[0][ROOT], held[0][COST] + cost, neighbour, place))
        best = best_offer(self.number, offers)
        if best is None:
            return (self.number, 0, None, None)
        root, cost, neighbour, place = best
        return (root, cost, place, self.held_by_place[place][0][STAMP])

    def take_label(self, label):
        if label != self.label_now:
            self.label_now = label
            self.version += 1

    def letter_over(self, place):
        root, cost, over, rests = self.label_now
        age = 0 if over is None else self.held_by_place[over][1] + 1
        ahead = ((self.life, self.ticks_had), self.stamp(), root, cost, age)
        if place == over:
            return ahead + (rests, None)
        if self.is_rested_on(place):
            return ahead + (None, self.held_by_place[place][0][STAMP])
        return ahead + (None, None)

    def is_rested_on(self, place):
        held = self.held(place)
        return held is not None and held[0][RESTS] == self.stamp()

    def is_agreed_to(self, place):
        # Agreed to is the stamp of now, and by the very label of the
        # neighbour on which the label of now rests.
        held = self.held(place)
        if held is None or held[0][AGREES] != self.stamp():
            return False
        return held[0][STAMP] == self.label_now[3]

    def end(self, place):
        if place not in self.ties_by_place:
            return "down"
        if place == self.label_now[2]:
            return "child" if self.is_agreed_to(place) else "shut"
        return "parent" if self.is_rested_on(place) else "shut"

"""Nets, things that are down and deeds, drawn by a seeded chance, for the tests."""

from shutways.nets import make_net


class Liar:
    """A thing that holds itself for like whatever it is held against."""

    def __eq__(self, other):
        return True

    def __hash__(self):
        return 1


# What is no whole number, whatever bounds it were to keep.
NO_NUMBERS = (
    Liar(),
    True, False, None, "", "0", "1", "one", 0.0, 1.0, float("nan"), float("inf"), 1j, b"1",
    [], [0], [1], (), (0,), (1,), {}, {1: 1}, set(), {1}, object(), int, range(2))

# What is no deed of a yard, a carrier, a learner or several trees, whatever their nets.
NO_DEEDS = NO_NUMBERS + (
    "tick", "tick 1", "come 0", b"tick", ["tick", 1], ["come", 0], [("tick", 1)], (("tick", 1),), {"tick": 1},
    ("tick",), ("come",), ("lost",), ("fall",), ("back",), ("fall", "bridge"), ("back", "tie"),
    ("tick", 1, 1), ("tick", "bridge", 1), ("tick", "tie", 0), ("fall", 1), ("back", 0), ("fall", 0, 0),
    ("fall", "bridge", 1, 1), ("fall", "bridge", "tie", 1), ("fall", "way", 0), ("back", "Bridge", 1),
    ("fall", "tie", 0, 0), ("fall", ("bridge", 1)), ("Tick", 1), ("TICK", 1), ("tick ", 1), ("tock", 1),
    ("", 1), ("tie", 0), ("bridge", 1), ("come", "0"), ("lost", "tie", 0), ("come", 0, 0, 0),
    ("lost", -1), ("come", -1), ("tick", -1), ("fall", "bridge", -1), ("fall", "tie", -1), ("back", "tie", -1),
    ("tick", 1000), ("tick", 10 ** 50), ("come", 10 ** 50), ("lost", -10 ** 50), ("fall", "tie", 10 ** 50),
    (1, "tick"), (0, 0), (None, 0), (True, 1), (("tick",), 1), (["tick"], 1), (Liar(), 1), (Liar(), "bridge", 1),
    ("fall", Liar(), 0), ("back", None, 0), ("fall", ["bridge"], 1), ("go", 0), ("frame", "a", "b")
    ) + tuple(
        words + (thing,) for thing in NO_NUMBERS
        for words in (("tick",), ("come",), ("lost",), ("fall", "bridge"), ("fall", "tie"), ("back", "bridge"),
                      ("back", "tie")))


def drawn_net(chance, most_bridges=10, most_ties=16, costs=(1, 1, 2, 3, 5, 9)):
    numbers = range(15) if chance.random() < 0.5 else range(1000)
    bridges = chance.sample(numbers, chance.randint(1, most_bridges))
    ties = []
    if len(bridges) > 1:
        for k in range(chance.randint(0, most_ties)):
            one, other = chance.sample(bridges, 2)
            ties.append((one, other, chance.choice(costs)))
    return make_net(bridges, ties)


def drawn_down(chance, net):
    part = chance.choice((0, 0, 0.1, 0.3, 0.6, 1))
    bridges = tuple(bridge for bridge in net[0] if chance.random() < part)
    part = chance.choice((0, 0, 0.1, 0.3, 0.6, 1))
    ties = tuple(place for place in range(len(net[1])) if chance.random() < part)
    return (bridges, ties)


def drawn_fall_or_back(chance, net, down):
    """A fall or a back of a bridge or a tie that can be done."""
    fallen = {"bridge": down[0], "tie": down[1]}
    there = {"bridge": net[0], "tie": range(len(net[1]))}
    rows = []
    for sort in ("bridge", "tie"):
        rows += [("back", sort, number) for number in fallen[sort]] * 3
        rows += [("fall", sort, number) for number in there[sort] if number not in fallen[sort]]
    return chance.choice(rows)


def drawn_deed(chance, net, down, letters, falls=0.03, lost=0.05, front=0.5):
    """A deed that can be done: letters are how many the road has."""
    draw = chance.random()
    standing = [bridge for bridge in net[0] if bridge not in down[0]]
    if draw < falls or not standing:
        return drawn_fall_or_back(chance, net, down)
    draw = chance.random()
    # The fuller the road, the likelier a letter comes, so that it stays short.
    if letters and draw < lost:
        return ("lost", chance.randrange(letters))
    if letters and draw < 0.4 + letters / 30:
        return ("come", 0 if chance.random() < front else chance.randrange(letters))
    return ("tick", chance.choice(standing))


def drawn_yard_deeds(chance, yard, many, falls=0.03, lost=0.05, front=0.5):
    """Tells a yard so many deeds; each one is yielded when it is done."""
    for turn in range(many):
        deed = drawn_deed(chance, yard.net(), yard.down(), len(yard.road()), falls, lost, front)
        yard.deed(deed)
        yield deed

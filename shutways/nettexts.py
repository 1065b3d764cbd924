"""Nets written by lines, and read back."""

from shutways.errors import NoNet
from shutways.nets import make_net
from shutways.wholes import is_numeral

# The greatest number of a net is the cost 1000.
MOST_FIGURES = 4


def show_net(net):
    lines = [f"bridge {number}\n" for number in net[0]]
    for one, other, cost in net[1]:
        lines.append(f"tie {one} {other} {cost}\n")
    return "".join(lines)


def read_net(text):
    bridges = []
    ties = []
    for line in text.split("\n")[:-1]:
        words = line.split(" ")
        numbers = read_numbers(words[1:])
        if words[0] == "bridge" and len(numbers) == 1:
            bridges.append(numbers[0])
        elif words[0] == "tie" and len(numbers) == 3:
            ties.append(tuple(numbers))
        else:
            raise NoNet("no such line is in a net's text")
    net = make_net(bridges, ties)
    # A net has one text alone. make_net takes bridges and ends in any order,
    # and the rows above take lines in any order, so the text itself is held
    # against the one that the net would have.
    if show_net(net) != text:
        raise NoNet("a net is not written so")
    return net


def read_numbers(words):
    if not all([is_numeral(word, MOST_FIGURES) for word in words]):
        raise NoNet("a number of a net's text is written by figures alone")
    return [int(word) for word in words]

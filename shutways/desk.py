"""The desk: one yard, told rows and answering each by a text."""

from shutways.errors import NoCommand, NoLine
from shutways.frames import carried
from shutways.histories import MOST_FIGURES, read_deeds
from shutways.nettexts import read_net
from shutways.quiet import is_settled, quiet_round
from shutways.wholes import is_numeral
from shutways.ways import open_ways
from shutways.yards import Yard

LEAST_AGE = 4
GREATEST_AGE = 200
MOST_ROUNDS = 300


class Desk:

    def __init__(self):
        self.yard = None

    def say(self, row):
        if not isinstance(row, str):
            raise NoCommand("a row is a text")
        if row.startswith("net "):
            return self.say_net(row)
        if self.yard is None:
            raise NoCommand("there is no yard")
        if row == "ways":
            return show_numbers([way[0] for way in open_ways(self.yard)]) or "none"
        if row == "road":
            return str(len(self.yard.road()))
        word, blank, rest = row.partition(" ")
        if word == "quiet":
            return self.say_quiet(read_number(rest))
        if word == "label":
            return self.say_label(read_number(rest))
        if word == "frame":
            return show_numbers([having[0] for having in carried(self.yard, read_number(rest))])
        return self.say_deed(row)

    def say_net(self, row):
        head, feed, text = row.partition("\n")
        age = read_number(head.partition(" ")[2])
        if feed == "" or not LEAST_AGE <= age <= GREATEST_AGE:
            raise NoCommand("a net's row has an age from 4 to 200 and a line feed")
        self.yard = Yard(read_net(text), age)
        return "ok"

    def say_quiet(self, rounds):
        if rounds > MOST_ROUNDS:
            raise NoCommand("at most 300 quiet rounds are told at once")
        for k in range(rounds):
            quiet_round(self.yard)
        return "settled" if is_settled(self.yard) else "not yet"

    def say_label(self, number):
        if number not in self.yard.net()[0]:
            raise NoCommand("the net has no such bridge")
        bridge = self.yard.bridge(number)
        if bridge is None:
            return "down"
        root, cost, over, rests = bridge.label()
        place = "-" if over is None else str(over)
        return f"{root} {cost} {place}"

    def say_deed(self, row):
        # A line feed would make two lines of one row.
        if "\n" in row:
            raise NoCommand("there is no such row")
        try:
            deeds = read_deeds(row + "\n")
        except NoLine:
            raise NoCommand("there is no such row") from None
        self.yard.deed(deeds[0])
        return "ok"


def read_number(word):
    if not is_numeral(word, MOST_FIGURES):
        raise NoCommand("a number is written by one to six figures")
    return int(word)


def show_numbers(numbers):
    return " ".join([str(number) for number in numbers])

"""All rows of a few deeds of a small net, gone through in one order."""

from shutways.ways import open_ways
from shutways.yards import twin_behind, yard_behind


def all_rows(net, greatest, ahead, many, falls):
    return counts_behind(yard_behind(net, greatest, ahead), many, falls)


def counts_behind(yard, many, falls):
    if many == 0:
        return [0] * len(open_ways(yard)) + [1]
    counts = []
    for deed in deeds_of_now(yard, falls):
        counts = added(counts, counts_behind(twin_behind(yard, deed), many - 1, falls))
    return counts


def added(one, other):
    longer, shorter = (one, other) if len(one) > len(other) else (other, one)
    sums = [first + second for first, second in zip(longer, shorter)]
    return sums + longer[len(shorter):]


def first_row(net, greatest, ahead, many, falls, ways):
    return first_behind(yard_behind(net, greatest, ahead), many, falls, ways)


def first_behind(yard, many, falls, ways):
    if many == 0:
        return [] if len(open_ways(yard)) >= ways else None
    for deed in deeds_of_now(yard, falls):
        rest = first_behind(twin_behind(yard, deed), many - 1, falls, ways)
        if rest is not None:
            return [deed] + rest
    return None


def deeds_of_now(yard, falls):
    deeds = [("tick", number) for number, label in yard.labels()]
    for word in ("come", "lost"):
        deeds.extend([(word, place) for place, letter in enumerate(yard.road())])
    return deeds + falls_and_backs(yard) if falls else deeds


def falls_and_backs(yard):
    net = yard.net()
    bridges, ties = yard.down()
    falls = [("fall", "bridge", number) for number in net[0] if number not in bridges]
    falls.extend([("fall", "tie", place) for place in range(len(net[1])) if place not in ties])
    backs = [("back", "bridge", number) for number in bridges]
    return falls + backs + [("back", "tie", place) for place in ties]

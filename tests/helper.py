"""Calls written as lists, answers parted into one list a call, and houses made by a test."""

import random

from smokestairs.house import answers

PRINTED = [1]
FREE = [5]
NOW = [6]

# Two fires, two stairs; ways of price 0, twice between the same places, and a place with no way.
HOUSE = (
    "fire kitchen\n"
    "room hall\n"
    "stair north\n"
    "stair south\n"
    "fire cellar\n"
    "room attic\n"
    "way door kitchen hall 5 1\n"
    "way gap hall kitchen 0 2\n"
    "way gate hall north 7 0\n"
    "way hatch south hall 1000000 1000\n"
    "way flap cellar south 1 3\n"
)


def build(text):
    """The call; the text may be a str of signs 0 to 255, or a list of bytes."""
    numbers = list(text) if isinstance(text, list) else list(text.encode("latin-1"))
    return [0, len(numbers)] + numbers


def close(way):
    return [2, way]


def reopen(way):
    return [3, way]


def stick(way):
    return [4, way]


def smoke(place):
    return [7, place]


def row(numbers):
    return [len(numbers)] + list(numbers)


def weak(some):
    return [8] + row(some)


def plan(k):
    return [9, k]


def proof(k):
    return [10, k]


def check(k, some, flow):
    return [11, k] + row(some) + row(flow)


def survives(some, sticking):
    return [12] + row(some) + row(sticking)


def arrive(place, times):
    return [13, place] + row(times)


def latest(place, some):
    return [14, place] + row(some)


def part(given):
    """The answers of one list, each by itself."""
    parts = []
    at = 0
    while at < len(given):
        end = at + 1 + given[at]
        assert end <= len(given), "an answer is cut off"
        parts.append(given[at + 1:end])
        at = end
    return parts


def run(*calls):
    """The answers of these calls, made one behind another on one new object."""
    parts = part(answers(sum(calls, [])))
    assert len(parts) == len(calls), "not one answer a call"
    return parts


def last(*calls):
    return run(*calls)[-1]


def bytes_of(text):
    return [0] + list(text.encode("latin-1"))


class Made:
    """A house as a test tells it: its places' kinds, and its ways (first, second, price, time) by places' numbers."""

    def __init__(self, kinds, ways):
        self.kinds = kinds
        self.ways = ways
        self.closable = [n for n, way in enumerate(ways, 1) if way[2] > 0]

    def text(self):
        lines = [f"{kind} p{n}\n" for n, kind in enumerate(self.kinds, 1)]
        for n, (first, second, price, time) in enumerate(self.ways, 1):
            lines.append(f"way w{n} p{first} p{second} {price} {time}\n")
        return "".join(lines)

    def ask(self, *calls):
        return run(build(self.text()), *calls)[1:]

    def of_kind(self, kind):
        return [n for n, other in enumerate(self.kinds, 1) if other == kind]

    def ends(self, place):
        """Each way at the place, with its other end."""
        found = []
        for n, (first, second, price, time) in enumerate(self.ways, 1):
            if place in (first, second):
                found.append((n, second if place == first else first))
        return found

    def rows_from(self, start):
        """All rows of ways from the place that come to no place twice, each with the place where it ends."""
        found = []
        open_rows = [((), (start,))]
        while open_rows:
            ways, places = open_rows.pop()
            found.append((ways, places[-1]))
            for n, other in self.ends(places[-1]):
                if other not in places:
                    open_rows.append((ways + (n,), places + (other,)))
        return found

    def smoke_ways(self):
        """All ways of smoke, each with its stair; those that come to a place twice have no fewer ways than these."""
        stairs = self.of_kind("stair")
        return [(ways, end) for fire in self.of_kind("fire") for ways, end in self.rows_from(fire) if end in stairs]

    def keeps(self, some, k):
        return all(len(set(ways) & set(some)) >= k for ways, stair in self.smoke_ways())

    def cost(self, some):
        return sum(self.ways[n - 1][2] for n in some)


def made_house(chance, most_places, most_ways, prices, times):
    """A house by a chance of its own; most of its ways lead to a near place, so that rows get long."""
    count = chance.randint(2, most_places)
    kinds = [chance.choice(["room", "room", "room", "fire", "stair"]) for n in range(count)]
    if chance.random() < 0.8:
        kinds[0] = "fire"
        kinds[-1] = "stair"
    order = chance.sample(range(1, count + 1), count)
    ways = []
    for n in range(chance.randint(1, most_ways)):
        first = chance.randrange(count)
        second = (first + chance.choice([1, 1, 1, 2, chance.randint(1, count)])) % count
        if first != second:
            ways.append((order[first], order[second], chance.choice(prices), chance.choice(times)))
    return Made([kinds[order.index(n)] for n in range(1, count + 1)], ways)


def made_houses(seed, count, most_places=6, most_ways=8, prices=(0, 1, 2, 3, 4, 7), times=(0, 1, 2, 5)):
    chance = random.Random(seed)
    return [made_house(chance, most_places, most_ways, prices, times) for n in range(count)]

"""A house: its places and the ways between them, both numbered from 1."""

FIRE = "fire"
STAIR = "stair"


class Place:
    def __init__(self, name, kind):
        self.name = name
        self.kind = kind


# Its ends are numbers, as smoke is followed by numbers; names are asked for only when a house is printed.
class Way:
    def __init__(self, name, first, second, price, time):
        self.name = name
        self.first = first
        self.second = second
        self.price = price
        self.time = time

    # Only asked of one of its two ends.
    def other_end(self, place):
        return self.second if place == self.first else self.first


class House:
    def __init__(self):
        self.places = []
        self.ways = []
        # Places and ways share one stock of names, but only places can be ends of a way.
        self.taken = {}
        self.place_numbers = {}

    def add_place(self, name, kind):
        self.places.append(Place(name, kind))
        self.taken[name] = True
        self.place_numbers[name] = len(self.places)

    def add_way(self, way):
        self.ways.append(way)
        self.taken[way.name] = True

    def is_taken(self, name):
        return name in self.taken

    # 0 can stand for no such place, as numbers begin with 1.
    def place_number(self, name):
        return self.place_numbers.get(name, 0)

    def has_place(self, number):
        return 1 <= number <= len(self.places)

    def has_way(self, number):
        return 1 <= number <= len(self.ways)

    def place(self, number):
        return self.places[number - 1]

    def way(self, number):
        return self.ways[number - 1]

    def numbers_of_kind(self, kind):
        return [number for number, place in enumerate(self.places, start=1) if place.kind == kind]

    def count_kind(self, kind):
        return len(self.numbers_of_kind(kind))

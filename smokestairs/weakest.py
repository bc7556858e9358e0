"""The weakest way of smoke for a set of ways, and whether the set keeps a number."""

from smokestairs.building import FIRE, STAIR
from smokestairs.spread import least_brought


class SmokeWay:
    def __init__(self, kept, numbers):
        self.kept = kept
        self.numbers = numbers


# None if there is no way of smoke. What is least at a place is a pair: ways of the set first, then all ways.
def weakest_way(house, some):
    at_first = dict([(fire, (0, 0)) for fire in house.numbers_of_kind(FIRE)])
    least = least_brought(house, at_first, lambda number, pair: one_way_more(some, number, pair))
    stairs = [stair for stair in house.numbers_of_kind(STAIR) if stair in least]
    if not stairs:
        return None
    # Only ways of the set are held against one another here: a later stair doesn't win by a shorter way.
    stair = min(stairs, key=lambda number: least[number][0])
    return SmokeWay(least[stair][0], ways_to(house, some, least, stair))


def one_way_more(some, number, pair):
    return (pair[0] + 1 if number in some else pair[0], pair[1] + 1)


def ways_to(house, some, least, stair):
    numbers = []
    place = stair
    # Only fires are come to by no way at all.
    while least[place][1] > 0:
        number = last_way(house, some, least, place)
        numbers.append(number)
        place = house.way(number).other_end(place)
    numbers.reverse()
    return numbers


# There is always one, as the place has its pair by some way.
def last_way(house, some, least, place):
    return min([number for number in range(1, len(house.ways) + 1) if can_be_last(house, some, least, place, number)])


def can_be_last(house, some, least, place, number):
    way = house.way(number)
    if place != way.first and place != way.second:
        return False
    return one_way_more(some, number, least[way.other_end(place)]) == least[place]


def keeps(house, some, k):
    weakest = weakest_way(house, some)
    return weakest is None or weakest.kept >= k

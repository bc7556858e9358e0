"""Where smoke comes by the ways that are left to it, and what is least there."""

from smokestairs.building import FIRE, STAIR


def places_reached(house, start, closed):
    reached = {start: True}
    to_visit = [start]
    while to_visit:
        place = to_visit.pop()
        for other in other_ends(house, place, closed):
            if other not in reached:
                reached[other] = True
                to_visit.append(other)
    return sorted(reached)


# Smoke goes both ways, so that the place may be either end.
def other_ends(house, place, closed):
    ends = []
    for number, way in enumerate(house.ways, start=1):
        if number in closed:
            continue
        if way.first == place:
            ends.append(way.second)
        if way.second == place:
            ends.append(way.first)
    return ends


def keeps_stairs_free(house, closed):
    stairs = house.numbers_of_kind(STAIR)
    for fire in house.numbers_of_kind(FIRE):
        reached = places_reached(house, fire, closed)
        if any([stair in reached for stair in stairs]):
            return False
    return True


# For each place that is come to, the least of what can be brought there from the places that have something at first.
# brought(number, value) is what a value becomes through a way, never less than it was; None if it isn't let through.
def least_brought(house, at_first, brought):
    least = dict(at_first)
    changed = True
    while changed:
        changed = False
        for number, way in enumerate(house.ways, start=1):
            for start, end in ((way.first, way.second), (way.second, way.first)):
                value = brought(number, least[start]) if start in least else None
                if value is not None and (end not in least or value < least[end]):
                    least[end] = value
                    changed = True
    return least

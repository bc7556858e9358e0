"""Where smoke comes by the ways that are left to it."""


def places_reached(house, start, closed):
    reached = {start: True}
    to_visit = [start]
    while to_visit:
        place = to_visit.pop()
        for other in other_ends(house, place, closed):
            if other not in reached:
                reached[other] = True
                to_visit.append(other)
    return sorted(reached)


# Smoke goes both ways, so that the place may be either end.
def other_ends(house, place, closed):
    ends = []
    for number, way in enumerate(house.ways, start=1):
        if number in closed:
            continue
        if way.first == place:
            ends.append(way.second)
        if way.second == place:
            ends.append(way.first)
    return ends

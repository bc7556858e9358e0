"""When smoke comes where, while ways are closing."""

from smokestairs.building import STAIR
from smokestairs.spread import least_brought

# Smoke is everywhere long before it, so that a way which is shut by then is as good as never shut.
NEVER = 1000000


# When smoke that begins at the place comes where, for those places to which it comes.
def arrivals(house, start, shut_by):
    return least_brought(house, {start: 0}, lambda number, time: time_behind(house, shut_by, number, time))


def time_behind(house, shut_by, number, time):
    if time >= shut_by[number - 1]:
        return None
    return time + house.way(number).time


def stair_is_reached(house, start, some, time):
    shut_by = [time if number in some else NEVER for number in range(1, len(house.ways) + 1)]
    came = arrivals(house, start, shut_by)
    return any([stair in came for stair in house.numbers_of_kind(STAIR)])


# Asked only where shut by 0 keeps smoke from the stairs and never shut doesn't; the later, the less is kept.
def latest_time(house, start, some):
    kept = 0
    reached = NEVER
    while reached - kept > 1:
        middle = (kept + reached) // 2
        if stair_is_reached(house, start, some, middle):
            reached = middle
        else:
            kept = middle
    return kept

"""What one more costs through the ways beside a flow, and the cheapest rows of ways."""

from smokestairs.building import FIRE, STAIR

ROUNDS = 17
ONWARD = 1
BACK = -1


# A way in one direction: onward from its first place to its second, or back.
# Its room is how much more can go at its cost, None if that is without end.
class Step:
    def __init__(self, number, direction, leaves, reaches, cost, room):
        self.number = number
        self.direction = direction
        self.leaves = leaves
        self.reaches = reaches
        self.cost = cost
        self.room = room


class Costs:
    def __init__(self, by_place, come_by):
        self.by_place = by_place
        self.come_by = come_by


# What goes in a direction is below 0 if it goes the other way.
def cost_of_more(price, going):
    if price == 0:
        return 0
    if going >= price:
        return 1
    if going >= -price:
        return 0
    return -1


def room_for_more(price, going):
    if price == 0 or going >= price:
        return None
    if going >= -price:
        return price - going
    return -price - going


# By the ways' numbers, since of equal costs the one that is looked at first is kept.
def steps_beside(house, flow):
    steps = []
    for number, way in enumerate(house.ways, start=1):
        going = flow[number - 1]
        cost = cost_of_more(way.price, going)
        steps.append(Step(number, ONWARD, way.first, way.second, cost, room_for_more(way.price, going)))
        cost = cost_of_more(way.price, -going)
        steps.append(Step(number, BACK, way.second, way.first, cost, room_for_more(way.price, -going)))
    return steps


def costs_in_rounds(house, flow, at_first):
    steps = steps_beside(house, flow)
    costs = Costs(at_first, {})
    for count in range(ROUNDS):
        later = one_round(steps, costs)
        # All further rounds would change nothing either.
        if later.by_place == costs.by_place:
            return later
        costs = later
    return costs


# The costs at the round's beginning stay as they are, since all places are looked at by them.
def one_round(steps, before):
    later = Costs(before.by_place.copy(), before.come_by.copy())
    for step in steps:
        if step.leaves not in before.by_place:
            continue
        cost = before.by_place[step.leaves] + step.cost
        if step.reaches not in later.by_place or cost < later.by_place[step.reaches]:
            later.by_place[step.reaches] = cost
            later.come_by[step.reaches] = step
    return later


# No steps at all if no row costs less than the limit.
def cheapest_row(house, flow, limit):
    costs = costs_in_rounds(house, flow, dict([(fire, 0) for fire in house.numbers_of_kind(FIRE)]))
    cheap = [stair for stair in house.numbers_of_kind(STAIR) if costs.by_place.get(stair, limit) < limit]
    if not cheap:
        return []
    return row_to(min(cheap, key=lambda stair: costs.by_place[stair]), costs.come_by)


# Its last step comes first: as much goes through each of them, so their order doesn't matter.
def row_to(stair, come_by):
    row = []
    place = stair
    while place in come_by:
        step = come_by[place]
        row.append(step)
        place = step.leaves
    return row

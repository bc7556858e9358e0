"""Flows: a whole number for each way, in order. How the one for k is made, and what a flow proves."""

from smokestairs.building import FIRE, STAIR
from smokestairs.rows import cheapest_row


class NoFlow(ValueError):
    pass


def flow_for(house, k):
    flow = [0 for way in house.ways]
    row = cheapest_row(house, flow, k)
    while row:
        send_along(flow, row)
        row = cheapest_row(house, flow, k)
    return flow


def send_along(flow, row):
    rooms = [step.room for step in row if step.room is not None]
    if not rooms:
        raise NoFlow("more can be sent without end")
    amount = min(rooms)
    for step in row:
        flow[step.number - 1] += step.direction * amount


# For each place, in order, what it gives out more than it takes in.
def given_out(house, flow):
    given = [0 for place in house.places]
    for way, going in zip(house.ways, flow):
        given[way.first - 1] += going
        given[way.second - 1] -= going
    return given


def is_right(house, flow):
    return all([may_give(place.kind, given) for place, given in zip(house.places, given_out(house, flow))])


def may_give(kind, given):
    if kind == FIRE:
        return given >= 0
    if kind == STAIR:
        return given <= 0
    return given == 0


def value_of(house, flow):
    return sum([given for place, given in zip(house.places, given_out(house, flow)) if place.kind == FIRE])


def excess_of(house, flow):
    return sum([max(0, abs(going) - way.price) for way, going in zip(house.ways, flow) if way.price > 0])


def proved_cost(house, flow, k):
    return k * value_of(house, flow) - excess_of(house, flow)

"""Plans: which ways are to be closed, and what a set of ways costs."""

from smokestairs.building import FIRE, STAIR
from smokestairs.flows import flow_for
from smokestairs.rows import costs_in_rounds


def plan_for(house, k):
    levels = levels_beside(house, flow_for(house, k), k)
    plan = []
    for number, way in enumerate(house.ways, start=1):
        if levels[way.first - 1] != levels[way.second - 1]:
            plan.append(number)
    return plan


# For each place, in order. Fires stay at 0 and stairs at k, since beside the flow for k no row leads them lower.
def levels_beside(house, flow, k):
    at_fires = [(fire, 0) for fire in house.numbers_of_kind(FIRE)]
    at_stairs = [(stair, k) for stair in house.numbers_of_kind(STAIR)]
    costs = costs_in_rounds(house, flow, dict(at_fires + at_stairs)).by_place
    return [min(k, costs.get(number, k)) for number in range(1, len(house.places) + 1)]


def cost_of_set(house, some):
    return sum([house.way(number).price for number in some])

"""The calls that ask of a house alone, whatever is closed or stuck: weak to latest."""

from smokestairs.flows import NoFlow, excess_of, flow_for, is_right, proved_cost, value_of
from smokestairs.plans import cost_of_set, plan_for
from smokestairs.refusals import DONE, NO_FLOW, NOT_AS_TOLD, NOT_KEPT, NOT_THERE
from smokestairs.spread import keeps_stairs_free
from smokestairs.times import NEVER, arrivals, latest_time, stair_is_reached
from smokestairs.weakest import keeps, weakest_way

GREATEST_K = 5

NO = 0
YES = 1
NOT_KEEPING = 1
FLOW_NOT_RIGHT = 2
NOT_PROVED = 3
NO_TIME = -1


def is_set_list(house, some):
    before = 0
    for number in some:
        if number <= before or not house.has_way(number) or house.way(number).price == 0:
            return False
        before = number
    return True


def is_time_list(house, times):
    return len(times) == len(house.ways) and all([0 <= time <= NEVER for time in times])


def is_k(k):
    return 1 <= k <= GREATEST_K


def ask_weak(house, some):
    if not is_set_list(house, some):
        return [NOT_AS_TOLD]
    weakest = weakest_way(house, some)
    if weakest is None:
        return [DONE, NO]
    return [DONE, YES, weakest.kept] + weakest.numbers


def ask_plan(house, k):
    if not is_k(k):
        return [NOT_AS_TOLD]
    try:
        plan = plan_for(house, k)
    except NoFlow:
        return [NO_FLOW]
    return [DONE, cost_of_set(house, plan)] + plan


def ask_proof(house, k):
    if not is_k(k):
        return [NOT_AS_TOLD]
    try:
        flow = flow_for(house, k)
    except NoFlow:
        return [NO_FLOW]
    return [DONE, value_of(house, flow), excess_of(house, flow)] + flow


def ask_check(house, k, some, flow):
    if not is_k(k) or not is_set_list(house, some) or len(flow) != len(house.ways):
        return [NOT_AS_TOLD]
    if not keeps(house, some, k):
        return [DONE, NO, NOT_KEEPING]
    if not is_right(house, flow):
        return [DONE, NO, FLOW_NOT_RIGHT]
    cost = cost_of_set(house, some)
    if proved_cost(house, flow, k) != cost:
        return [DONE, NO, NOT_PROVED]
    return [DONE, YES, cost]


def ask_survives(house, some, sticking):
    if not is_set_list(house, some) or not is_set_list(house, sticking):
        return [NOT_AS_TOLD]
    closed = [number for number in some if number not in sticking]
    return [DONE, YES if keeps_stairs_free(house, closed) else NO]


def ask_arrive(house, start, times):
    if not house.has_place(start):
        return [NOT_THERE]
    if not is_time_list(house, times):
        return [NOT_AS_TOLD]
    came = arrivals(house, start, times)
    return [DONE] + [came.get(number, NO_TIME) for number in range(1, len(house.places) + 1)]


def ask_latest(house, start, some):
    if not house.has_place(start):
        return [NOT_THERE]
    if not is_set_list(house, some):
        return [NOT_AS_TOLD]
    if stair_is_reached(house, start, some, 0):
        return [NOT_KEPT]
    if not stair_is_reached(house, start, some, NEVER):
        return [DONE, NO_TIME]
    return [DONE, latest_time(house, start, some)]

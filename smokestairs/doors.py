"""Which ways of a house are closed, and which are stuck."""

from smokestairs.building import House
from smokestairs.refusals import DONE, NEVER_CLOSED, NOT_THERE, STUCK


# Closed and stuck are apart, since a way sticks as it is: closed or not.
class State:
    def __init__(self):
        self.house = House()
        self.closed = {}
        self.stuck = {}

    def move_into(self, house):
        self.house = house
        self.closed = {}
        self.stuck = {}


def close_way(state, number):
    if not state.house.has_way(number):
        return [NOT_THERE]
    if state.house.way(number).price == 0:
        return [NEVER_CLOSED]
    if number in state.stuck:
        return [STUCK]
    state.closed[number] = True
    return [DONE]


def reopen_way(state, number):
    if not state.house.has_way(number):
        return [NOT_THERE]
    if number in state.stuck:
        return [STUCK]
    state.closed.pop(number, None)
    return [DONE]


def stick_way(state, number):
    if not state.house.has_way(number):
        return [NOT_THERE]
    state.stuck[number] = True
    return [DONE]


def free_ways(state):
    state.stuck = {}
    return [DONE]


def ways_now(state):
    answer = [DONE, len(state.closed)]
    answer.extend(sorted(state.closed))
    answer.append(len(state.stuck))
    answer.extend(sorted(state.stuck))
    return answer

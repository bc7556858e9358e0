"""The calls on a house, and what they answer."""

from smokestairs.doors import DONE, NOT_THERE, State, close_way, free_ways, reopen_way, stick_way, ways_now
from smokestairs.reading import read_calls
from smokestairs.spread import places_reached
from smokestairs.texts import WrongLine, print_house, read_house

BUILD = 0
PRINT = 1
CLOSE = 2
REOPEN = 3
STICK = 4
FREE = 5
NOW = 6
SMOKE = 7

WRONG_TEXT = 1


# A state is made anew each time, so that nothing is kept from one list of calls to the next.
def answers(calls):
    state = State()
    given = []
    for call in read_calls(calls):
        answer = answer_of(state, call)
        given.append(len(answer))
        given.extend(answer)
    return given


def answer_of(state, call):
    if call.kind == BUILD:
        return build(state, call.rows[0])
    if call.kind == PRINT:
        return [DONE] + print_house(state.house)
    if call.kind == CLOSE:
        return close_way(state, call.numbers[0])
    if call.kind == REOPEN:
        return reopen_way(state, call.numbers[0])
    if call.kind == STICK:
        return stick_way(state, call.numbers[0])
    if call.kind == FREE:
        return free_ways(state)
    if call.kind == NOW:
        return ways_now(state)
    if call.kind == SMOKE:
        return smoke(state, call.numbers[0])
    # The other calls are read, so that those behind them are found, but aren't answered yet.
    return []


def build(state, text):
    try:
        house = read_house(text)
    except WrongLine as wrong:
        return [WRONG_TEXT, wrong.line, wrong.why]
    state.move_into(house)
    return [DONE, len(house.places), len(house.ways), house.count_kind("fire"), house.count_kind("stair")]


def smoke(state, start):
    if not state.house.has_place(start):
        return [NOT_THERE]
    return [DONE] + places_reached(state.house, start, state.closed)

"""The calls on a house, and what they answer."""

from smokestairs.asking import ask_arrive, ask_check, ask_latest, ask_plan, ask_proof, ask_survives, ask_weak
from smokestairs.building import FIRE, STAIR
from smokestairs.doors import State, close_way, free_ways, reopen_way, stick_way, ways_now
from smokestairs.reading import read_calls
from smokestairs.refusals import DONE, NOT_THERE
from smokestairs.spread import places_reached
from smokestairs.texts import WrongLine, print_house, read_house

BUILD = 0
PRINT = 1
CLOSE = 2
REOPEN = 3
STICK = 4
FREE = 5
NOW = 6
WEAK = 8
PLAN = 9
PROOF = 10
CHECK = 11
SURVIVES = 12
ARRIVE = 13

WRONG_TEXT = 1


# A state is made anew each time, so that nothing is kept from one list of calls to the next.
def answers(calls):
    state = State()
    given = []
    for call in read_calls(calls):
        # The calls from weak on are handed the house alone: what is closed or stuck doesn't matter to them.
        if call.kind < WEAK:
            answer = answer_of(state, call)
        else:
            answer = asked_answer(state.house, call)
        given.append(len(answer))
        given.extend(answer)
    return given


def answer_of(state, call):
    if call.kind == BUILD:
        return build(state, call.rows[0])
    if call.kind == PRINT:
        return [DONE] + print_house(state.house)
    if call.kind == CLOSE:
        return close_way(state, call.numbers[0])
    if call.kind == REOPEN:
        return reopen_way(state, call.numbers[0])
    if call.kind == STICK:
        return stick_way(state, call.numbers[0])
    if call.kind == FREE:
        return free_ways(state)
    if call.kind == NOW:
        return ways_now(state)
    return smoke(state, call.numbers[0])


def asked_answer(house, call):
    if call.kind == WEAK:
        return ask_weak(house, call.rows[0])
    if call.kind == PLAN:
        return ask_plan(house, call.numbers[0])
    if call.kind == PROOF:
        return ask_proof(house, call.numbers[0])
    if call.kind == CHECK:
        return ask_check(house, call.numbers[0], call.rows[0], call.rows[1])
    if call.kind == SURVIVES:
        return ask_survives(house, call.rows[0], call.rows[1])
    if call.kind == ARRIVE:
        return ask_arrive(house, call.numbers[0], call.rows[0])
    return ask_latest(house, call.numbers[0], call.rows[0])


def build(state, text):
    try:
        house = read_house(text)
    except WrongLine as wrong:
        return [WRONG_TEXT, wrong.line, wrong.why]
    state.move_into(house)
    return [DONE, len(house.places), len(house.ways), house.count_kind(FIRE), house.count_kind(STAIR)]


def smoke(state, start):
    if not state.house.has_place(start):
        return [NOT_THERE]
    return [DONE] + places_reached(state.house, start, state.closed)

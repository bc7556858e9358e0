"""Calls 9 and 10: the plan for k, and the flow that proves it."""

import unittest

from tests.helper import Made, made_houses, plan, proof, run

MOST = 1000000
# What goes over the middle (way 3) for k = 2 is more than its price; for k = 4 it is sent back.
MIDDLE = Made(["fire", "room", "room", "room", "room", "room", "room", "stair"],
              [(1, 2, 20, 1), (2, 3, 24, 1), (3, 4, 2, 1), (4, 5, 24, 1), (5, 8, 20, 1),
               (1, 6, 2, 1), (6, 4, 2, 1), (3, 7, 2, 1), (7, 8, 2, 1)])


def cost_of_one_more(price, going):
    if price == 0:
        return 0, None
    if going >= price:
        return 1, None
    if going < -price:
        return -1, -price - going
    return 0, price - going


def told_rounds(house, flow, at_first):
    """All 17 rounds, place by place, as the document tells them."""
    costs = dict(at_first)
    come_by = {}
    for n in range(17):
        before = dict(costs)
        for place in range(1, len(house.kinds) + 1):
            for number, other in house.ends(place):
                if other not in before:
                    continue
                first, second, price, time = house.ways[number - 1]
                sign = 1 if second == place else -1
                cost = before[other] + cost_of_one_more(price, sign * flow[number - 1])[0]
                if place not in costs or cost < costs[place]:
                    costs[place] = cost
                    come_by[place] = (number, sign, other)
    return costs, come_by


def told_flow(house, k):
    """The flow for k, None if there is none."""
    flow = [0] * len(house.ways)
    while True:
        costs, come_by = told_rounds(house, flow, {fire: 0 for fire in house.of_kind("fire")})
        stairs = [stair for stair in house.of_kind("stair") if stair in costs]
        stair = min(stairs, key=lambda n: (costs[n], n), default=None)
        if stair is None or costs[stair] >= k:
            return flow
        row = []
        place = stair
        while place in come_by:
            row.append(come_by[place])
            place = come_by[place][2]
        rooms = [cost_of_one_more(house.ways[number - 1][2], sign * flow[number - 1])[1] for number, sign, n in row]
        if all(room is None for room in rooms):
            return None
        for number, sign, n in row:
            flow[number - 1] += sign * min(room for room in rooms if room is not None)


def told_plan(house, flow, k):
    at_first = {fire: 0 for fire in house.of_kind("fire")}
    at_first.update({stair: k for stair in house.of_kind("stair")})
    costs, come_by = told_rounds(house, flow, at_first)
    levels = {place: min(k, costs.get(place, k)) for place in range(1, len(house.kinds) + 1)}
    levels.update(at_first)
    return [n for n, way in enumerate(house.ways, 1) if levels[way[0]] != levels[way[1]]]


class PlanTest(unittest.TestCase):
    def plan(self, house, k, answer):
        self.assertEqual(house.ask(plan(k)), [answer], (house.text(), k))

    def proof(self, house, k, answer):
        self.assertEqual(house.ask(proof(k)), [answer], (house.text(), k))

    def both(self, house, k, ways, value, excess, flow):
        self.plan(house, k, [0, house.cost(ways)] + ways)
        self.proof(house, k, [0, value, excess] + flow)

    def neither(self, house, k):
        self.plan(house, k, [-5])
        self.proof(house, k, [-5])


class Refusals(PlanTest):
    def test_k_out_of_range(self):
        house = Made(["fire", "stair"], [(1, 2, 1, 1)])
        without_flow = Made(["fire", "stair"], [(1, 2, 0, 1)])
        for k in (0, 6, -1, 7, -1000000000, 1000000000):
            self.assertEqual(run(plan(k), proof(k)), [[-2], [-2]])
            self.assertEqual(house.ask(plan(k), proof(k)), [[-2], [-2]])
            self.assertEqual(without_flow.ask(plan(k), proof(k)), [[-2], [-2]])

    def test_all_k_in_range(self):
        house = Made(["fire"] + ["room"] * 4 + ["stair"], [(n, n + 1, 1, 1) for n in range(1, 6)])
        for k in range(1, 6):
            self.assertEqual(house.ask(plan(k), proof(k))[0][:2], [0, k])
            self.assertEqual(run(plan(k), proof(k)), [[0, 0], [0, 0, 0]])

    def test_no_flow(self):
        self.neither(Made(["fire", "stair"], [(1, 2, 0, 1)]), 1)
        self.neither(Made(["fire", "room", "stair"], [(1, 2, 0, 1), (3, 2, 0, 1)]), 1)
        house = Made(["fire", "stair"], [(2, 1, 5, 1)])
        self.both(house, 1, [1], 5, 0, [-5])
        for k in range(2, 6):
            self.neither(house, k)

    def test_no_flow_as_one_row_of_several_is_open(self):
        house = Made(["fire", "room", "stair"], [(1, 2, 1, 1), (2, 3, 1, 1), (1, 3, 0, 1)])
        self.neither(house, 1)
        house = Made(["fire", "room", "stair"], [(1, 2, 1, 1), (2, 3, 1, 1), (1, 3, 1, 1)])
        self.both(house, 1, [1, 3], 2, 0, [1, 1, 1])
        self.neither(house, 2)


class HousesWithoutSmoke(PlanTest):
    def test_without_fire_stair_or_ways(self):
        for kinds in (["room", "stair"], ["fire", "room"], ["room", "room"], ["fire", "fire"], ["stair", "stair"]):
            for price in (0, 3):
                house = Made(kinds, [(1, 2, price, 1)])
                for k in range(1, 6):
                    self.both(house, k, [], 0, 0, [0])
        for k in range(1, 6):
            self.both(Made(["fire", "stair", "room"], []), k, [], 0, 0, [])

    def test_places_come_to_from_nowhere(self):
        # Two rooms joined with one another alone have both the level k.
        house = Made(["room", "fire", "stair", "room"], [(1, 4, 9, 1), (2, 3, 4, 1)])
        self.both(house, 1, [2], 4, 0, [0, 4])

    def test_a_dead_end(self):
        house = Made(["fire", "stair", "room", "room"], [(1, 3, 9, 1), (2, 4, 9, 1), (1, 2, 4, 1)])
        self.both(house, 1, [3], 4, 0, [0, 0, 4])


class Rows(PlanTest):
    def test_fire_and_fire_stair_and_stair(self):
        house = Made(["fire", "fire", "stair", "stair"],
                     [(1, 2, 7, 1), (1, 3, 2, 1), (2, 4, 3, 1), (4, 3, 5, 1)])
        # Nothing goes between the fires; the first stair is come to through the second, too.
        self.both(house, 1, [2, 3], 5, 0, [0, 2, 3, 3])

    def test_between_two_stairs_no_more_than_its_price(self):
        house = Made(["fire", "stair", "stair"], [(1, 3, 9, 1), (3, 2, 4, 1)])
        # Four go on to the first stair, five end in the second.
        self.both(house, 1, [1], 9, 0, [9, 4])
        self.neither(house, 2)

    def test_of_several_ways_the_least_number(self):
        for ends in ((1, 2), (2, 1)):
            sign = 1 if ends == (1, 2) else -1
            house = Made(["fire", "room", "stair"], [ends + (5, 1), ends + (5, 1), (2, 3, 6, 1)])
            self.both(house, 1, [3], 6, 0, [5 * sign, sign, 6])

    def test_of_several_rows_the_one_of_fewest_ways(self):
        house = Made(["fire", "room", "room", "stair"], [(1, 2, 5, 1), (2, 3, 5, 1), (1, 3, 3, 1), (3, 4, 4, 1)])
        self.both(house, 1, [4], 4, 0, [1, 1, 3, 4])

    def test_the_last_way_of_least_number_is_come_by(self):
        # Both rows have three ways; the stair is come by way 2, so the row over the third place is filled first.
        house = Made(["fire", "room", "room", "stair", "room"],
                     [(5, 2, 4, 1), (3, 4, 6, 1), (5, 3, 4, 1), (2, 4, 6, 1), (1, 5, 5, 1)])
        self.both(house, 1, [5], 5, 0, [1, 4, 4, 1, 5])

    def test_of_equal_stairs_the_first(self):
        house = Made(["fire", "room", "stair", "stair"], [(1, 2, 5, 1), (2, 4, 4, 1), (2, 3, 4, 1)])
        self.both(house, 1, [1], 5, 0, [5, 1, 4])

    def test_a_cheaper_stair_before_the_first(self):
        # Once way 2 is full, the second stair takes what costs nothing before the first one takes what costs 1.
        house = Made(["fire", "room", "stair", "stair"], [(1, 2, 9, 1), (2, 3, 2, 1), (2, 4, 3, 1)])
        self.both(house, 1, [2, 3], 5, 0, [5, 2, 3])
        self.both(house, 2, [1, 2, 3], 9, 4, [9, 6, 3])
        self.neither(house, 3)

    def test_what_the_first_row_took_goes_back(self):
        # The row of three ways goes over way 2; the other one, of seven, against it.
        house = Made(["fire", "room", "room", "stair", "room", "room", "room", "room"],
                     [(1, 2, 1, 1), (2, 3, 1, 1), (3, 4, 1, 1), (1, 5, 1, 1), (5, 6, 1, 1), (6, 3, 1, 1),
                      (2, 7, 1, 1), (7, 8, 1, 1), (8, 4, 1, 1)])
        self.both(house, 1, [1, 4], 2, 0, [1, 0, 1, 1, 1, 1, 1, 1, 1])

    def test_more_than_its_price(self):
        house = Made(["fire", "room", "stair"], [(1, 2, 5, 1), (3, 2, 7, 0)])
        self.both(house, 1, [1], 5, 0, [5, -5])
        self.both(house, 2, [1, 2], 7, 2, [7, -7])
        self.neither(house, 3)

    def test_sent_back_at_1_less_each(self):
        self.both(MIDDLE, 1, [3, 6, 8], 6, 0, [4, 4, 2, 4, 4, 2, 2, 2, 2])
        # 16 more over the middle at 1 each, until the ends are full.
        self.both(MIDDLE, 2, [1, 3, 6, 7, 8], 22, 16, [20, 20, 18, 20, 20, 2, 2, 2, 2])
        self.both(MIDDLE, 3, [1, 3, 5, 6, 7, 8, 9], 22, 16, [20, 20, 18, 20, 20, 2, 2, 2, 2])
        # At 3 each: 4 by 6, 7, 4, 5; 4 by 1, 2, 8, 9; then 16 by 6, 7, back over the middle, 8, 9.
        self.both(MIDDLE, 4, [1, 2, 4, 5, 6, 7, 8, 9], 46, 88, [24, 24, 2, 24, 24, 22, 22, 22, 22])
        self.neither(MIDDLE, 5)

    def test_prices_of_a_million(self):
        house = Made(["fire", "room", "room", "stair"],
                     [(1, 2, MOST, 1), (2, 3, MOST - 1, 1), (3, 4, MOST, 1)])
        self.both(house, 1, [2], MOST - 1, 0, [MOST - 1] * 3)
        self.both(house, 2, [1, 2], MOST, 1, [MOST] * 3)
        self.both(house, 3, [1, 2, 3], MOST, 1, [MOST] * 3)
        many = Made(["fire", "stair"], [(1, 2, MOST, 1)] * 30)
        self.both(many, 1, list(range(1, 31)), 30 * MOST, 0, [MOST] * 30)
        self.neither(many, 2)

    def test_sixteen_places_and_thirty_ways(self):
        ways = [(n, n + 1, MOST - n, 1) for n in range(1, 16)]
        ways += [(n + 1, n, n, 1) for n in range(1, 16)]
        house = Made(["fire"] + ["room"] * 14 + ["stair"], ways)
        # Each two neighbours cost a million together; the cheapest rows are filled by the ways' numbers.
        for k in range(1, 6):
            self.assertEqual(house.ask(plan(k))[0][:2], [0, k * MOST])
            self.assertEqual(house.ask(proof(k))[0], [0, MOST, 0] + [MOST - n for n in range(1, 16)]
                             + [-n for n in range(1, 16)])


class MadeHouses(PlanTest):
    def as_told(self, house):
        for k in range(1, 6):
            flow = told_flow(house, k)
            if flow is None:
                self.neither(house, k)
                continue
            self.assertEqual(house.ask(proof(k))[0][3:], flow, (house.text(), k))
            ways = told_plan(house, flow, k)
            self.plan(house, k, [0, house.cost(ways)] + ways)

    def test_small_houses(self):
        for house in made_houses(91, 250):
            self.as_told(house)

    def test_houses_with_long_rows(self):
        for house in made_houses(92, 120, most_places=12, most_ways=20, prices=(1, 2, 3, 5, 8, 20)):
            self.as_told(house)

    def test_the_largest_houses(self):
        for house in made_houses(93, 40, most_places=16, most_ways=30, prices=(0, 1, 1, 2, 3, 4, 9, 50, MOST)):
            self.as_told(house)

    def test_prices_near_one_another(self):
        for house in made_houses(94, 100, most_places=9, most_ways=16, prices=(1, 2)):
            self.as_told(house)


if __name__ == "__main__":
    unittest.main()

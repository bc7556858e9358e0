"""Call 11: whether a set keeps k, a flow is right, and the flow proves the set's cost."""

import itertools
import random
import unittest

from tests.helper import Made, build, check, last, made_houses

CHAIN = Made(["fire", "room", "stair"], [(1, 2, 5, 1), (3, 2, 7, 0)])
# A way that can't be closed beside one that can, and two fires.
HOUSE = Made(["fire", "room", "stair", "fire", "room"],
             [(1, 2, 0, 1), (2, 1, 3, 1), (2, 3, 4, 1), (4, 3, 2, 1), (1, 4, 6, 1), (5, 2, 1, 1)])


class CheckTest(unittest.TestCase):
    def checked(self, house, k, some, flow, answer):
        self.assertEqual(house.ask(check(k, some, flow)), [answer], (house.text(), k, some, flow))

    def test_all_three_hold(self):
        self.checked(CHAIN, 1, [1], [5, -5], [0, 1, 5])
        self.checked(CHAIN, 2, [1, 2], [7, -7], [0, 1, 12])
        # Seven go twice, two of them beyond the price: 14 - 2; six: 12 - 1; eight: 16 - 3 - 1.
        self.checked(CHAIN, 2, [1, 2], [8, -8], [0, 1, 12])
        self.checked(CHAIN, 2, [1, 2], [6, -6], [0, 0, 3])

    def test_the_set_does_not_keep_k(self):
        self.checked(CHAIN, 1, [], [5, -5], [0, 0, 1])
        self.checked(CHAIN, 2, [1], [5, -5], [0, 0, 1])
        self.checked(CHAIN, 3, [1, 2], [7, -7], [0, 0, 1])
        self.checked(HOUSE, 2, [3, 4], [4, 0, 4, 2, 0, 0], [0, 0, 1])

    def test_the_flow_is_not_right(self):
        self.checked(CHAIN, 1, [1], [5, -4], [0, 0, 2])
        self.checked(CHAIN, 1, [1], [5, 5], [0, 0, 2])
        self.checked(CHAIN, 1, [1], [-5, 5], [0, 0, 2])
        self.checked(HOUSE, 1, [3, 4], [4, 0, 4, 2, 0, 1], [0, 0, 2])

    def test_a_fire_must_not_take_in_nor_a_stair_give_out(self):
        # The first fire takes 1 from the second, and gives nothing.
        self.checked(HOUSE, 1, [3, 4], [0, 0, 0, 0, -1, 0], [0, 0, 2])
        self.checked(HOUSE, 1, [3, 4], [0, 0, 0, 0, 1, 0], [0, 0, 2])
        two_stairs = Made(["fire", "stair", "stair"], [(1, 2, 1, 0), (2, 3, 1, 0)])
        self.checked(two_stairs, 1, [1], [1, 1], [0, 1, 1])
        self.checked(two_stairs, 1, [1], [0, 1], [0, 0, 2])
        self.checked(two_stairs, 1, [1], [1, -1], [0, 0, 2])

    def test_a_fire_may_give_what_it_takes(self):
        two_fires = Made(["fire", "fire", "stair"], [(1, 2, 4, 0), (2, 3, 4, 0)])
        self.checked(two_fires, 1, [2], [4, 4], [0, 1, 4])
        self.checked(two_fires, 1, [2], [1, 4], [0, 1, 4])
        self.checked(two_fires, 1, [2], [-1, 4], [0, 0, 2])

    def test_what_is_not_proved(self):
        self.checked(CHAIN, 1, [1], [4, -4], [0, 0, 3])
        self.checked(CHAIN, 1, [1], [0, 0], [0, 0, 3])
        self.checked(CHAIN, 1, [2], [5, -5], [0, 0, 3])
        self.checked(CHAIN, 1, [1, 2], [5, -5], [0, 0, 3])
        # More than the price proves no more for k = 1.
        self.checked(CHAIN, 1, [1], [6, -6], [0, 1, 5])
        self.checked(CHAIN, 1, [1], [8, -8], [0, 0, 3])

    def test_what_goes_through_a_way_that_can_not_be_closed_is_no_excess(self):
        self.checked(HOUSE, 1, [3, 4], [4, 0, 4, 2, 0, 0], [0, 1, 6])
        self.checked(HOUSE, 1, [3, 4], [1000000000, 999999996, 4, 2, 0, 0], [0, 0, 3])

    def test_excess_in_either_direction(self):
        # 5 go round over the closable way, 2 beyond its price.
        self.checked(HOUSE, 1, [3, 4], [9, 5, 4, 2, 0, 0], [0, 0, 3])
        self.checked(HOUSE, 1, [3, 4], [-1, -5, 4, 2, 0, 0], [0, 0, 3])
        self.checked(HOUSE, 1, [3, 4], [7, 3, 4, 2, 0, 0], [0, 1, 6])
        self.checked(HOUSE, 1, [3, 4], [1, -3, 4, 2, 0, 0], [0, 1, 6])

    def test_of_several_the_first(self):
        self.checked(CHAIN, 1, [], [5, 4], [0, 0, 1])
        self.checked(CHAIN, 1, [], [1, -1], [0, 0, 1])
        self.checked(CHAIN, 2, [2], [1, 1], [0, 0, 1])
        self.checked(CHAIN, 1, [2], [5, -4], [0, 0, 2])

    def test_no_way_of_smoke_keeps_every_k(self):
        house = Made(["fire", "room", "stair"], [(1, 2, 5, 1)])
        for k in range(1, 6):
            self.checked(house, k, [], [0], [0, 1, 0])
            self.checked(house, k, [1], [0], [0, 0, 3])
            self.checked(house, k, [], [1], [0, 0, 2])
            self.assertEqual(last(check(k, [], [])), [0, 1, 0])

    def test_nothing_is_proved_to_cost_nothing(self):
        # Excess alone: a ring of rooms with 3 going round where 1 may.
        ring = Made(["room", "room"], [(1, 2, 1, 1), (2, 1, 1, 1)])
        self.checked(ring, 1, [], [1, 1], [0, 1, 0])
        self.checked(ring, 1, [], [3, 3], [0, 0, 3])
        self.checked(ring, 1, [], [-2, -2], [0, 0, 3])

    def test_numbers_to_a_thousand_million(self):
        most = 1000000000
        self.checked(CHAIN, 1, [1], [most, -most], [0, 0, 3])
        self.checked(CHAIN, 2, [1, 2], [most, -most], [0, 1, 12])
        self.checked(CHAIN, 1, [1], [-most, most], [0, 0, 2])
        self.checked(CHAIN, 1, [1], [most, most], [0, 0, 2])
        self.checked(CHAIN, 1, [1], [most, -most + 1], [0, 0, 2])

    def test_k_out_of_range(self):
        for k in (0, 6, -1, 7, -1000000000, 1000000000):
            self.checked(CHAIN, k, [1], [5, -5], [-2])
            self.assertEqual(last(check(k, [], [])), [-2])

    def test_a_set_that_is_not_as_told(self):
        for some in ([2, 1], [1, 1], [0], [3], [-1], [1, 3], [1000000000], list(range(1, 41))):
            self.checked(CHAIN, 1, some, [5, -5], [-2])
        self.checked(HOUSE, 1, [1], [0] * 6, [-2])
        self.checked(HOUSE, 1, [1, 3], [0] * 6, [-2])

    def test_a_flow_of_another_length(self):
        for flow in ([], [5], [5, -5, 0], [0] * 40):
            self.checked(CHAIN, 1, [1], flow, [-2])
            # Though the set doesn't keep k.
            self.checked(CHAIN, 1, [], flow, [-2])
        self.assertEqual(last(build(""), check(1, [], [0])), [-2])

    def test_several_wrong_together(self):
        self.checked(CHAIN, 0, [2, 1], [], [-2])
        self.checked(CHAIN, 6, [1], [1, 2, 3], [-2])

    def due(self, house, k, some, flow):
        if not house.keeps(some, k):
            return [0, 0, 1]
        given = [0] * len(house.kinds)
        excess = 0
        for (first, second, price, time), going in zip(house.ways, flow):
            given[first - 1] += going
            given[second - 1] -= going
            excess += 0 if price == 0 else max(0, going - price, -going - price)
        for kind, out in zip(house.kinds, given):
            if (kind != "fire" and out > 0) or (kind != "stair" and out < 0):
                return [0, 0, 2]
        value = sum(out for kind, out in zip(house.kinds, given) if kind == "fire")
        cost = house.cost(some)
        return [0, 1, cost] if k * value - excess == cost else [0, 0, 3]

    def test_small_houses_with_all_small_flows(self):
        chance = random.Random(11)
        found = []
        for house in made_houses(111, 40, most_places=4, most_ways=4, prices=(0, 1, 2)):
            some = [n for n in house.closable if chance.random() < 0.8]
            for flow in itertools.product(range(-2, 4), repeat=len(house.ways)):
                if chance.random() < 0.2:
                    k = chance.randint(1, 2)
                    due = self.due(house, k, some, flow)
                    found.append(due[1:] if due[1] == 0 else [1])
                    self.checked(house, k, some, flow, due)
        # Each of the four answers is among them.
        for answer in ([1], [0, 1], [0, 2], [0, 3]):
            self.assertIn(answer, found)


if __name__ == "__main__":
    unittest.main()

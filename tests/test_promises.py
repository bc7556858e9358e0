"""Promises 1 to 4, over many houses that the test makes. (Promise 5 is in test_arrive.)"""

import itertools
import random
import unittest

from tests.helper import check, made_houses, plan, proof, survives, weak

SMALL = made_houses(1, 200)
LARGE = made_houses(2, 60, most_places=10, most_ways=14, prices=(0, 1, 2, 3, 5, 9, 30, 1000000))


def subsets(numbers):
    for count in range(len(numbers) + 1):
        yield from itertools.combinations(numbers, count)


class PromisesTest(unittest.TestCase):
    def each_plan(self, houses):
        """Each house with each k that has a plan: what plan and proof answer, without the 0 ahead."""
        found = 0
        for house in houses:
            given = house.ask(*[call(k) for k in range(1, 6) for call in (plan, proof)])
            for k in range(1, 6):
                planned, proved = given[2 * k - 2:2 * k]
                if planned != [-5]:
                    found += 1
                    yield house, k, planned[1:], proved[1:]
                self.assertEqual(planned == [-5], proved == [-5])
        self.assertGreater(found, len(houses))

    def test_1_a_plan_keeps_k_and_costs_what_the_flow_proves(self):
        for house, k, (cost, *ways), (value, excess, *flow) in self.each_plan(SMALL + LARGE):
            self.assertEqual(ways, sorted(set(ways) & set(house.closable)), house.text())
            self.assertTrue(house.keeps(ways, k), (house.text(), k))
            self.assertEqual(cost, house.cost(ways))
            self.assertEqual(cost, k * value - excess, (house.text(), k))
            self.assertEqual(len(flow), len(house.ways))

    def test_1_value_and_excess_are_those_of_the_flow(self):
        for house, k, planned, (value, excess, *flow) in self.each_plan(SMALL + LARGE):
            given = [0] * len(house.kinds)
            for (first, second, price, time), going in zip(house.ways, flow):
                given[first - 1] += going
                given[second - 1] -= going
            self.assertEqual(value, sum(given[fire - 1] for fire in house.of_kind("fire")))
            self.assertEqual(-value, sum(given[stair - 1] for stair in house.of_kind("stair")))
            beyond = [max(0, abs(going) - way[2]) for way, going in zip(house.ways, flow) if way[2] > 0]
            self.assertEqual(excess, sum(beyond))

    def test_1_check_of_plan_and_flow(self):
        for house, k, (cost, *ways), (value, excess, *flow) in self.each_plan(SMALL + LARGE):
            self.assertEqual(house.ask(check(k, ways, flow)), [[0, 1, cost]], (house.text(), k))

    def test_1_no_set_that_keeps_k_is_cheaper(self):
        for house, k, (cost, *ways), proved in self.each_plan(SMALL):
            rows = [set(row) for row, stair in house.smoke_ways()]
            costs = [house.cost(some) for some in subsets(house.closable)
                     if all(len(row & set(some)) >= k for row in rows)]
            self.assertEqual(cost, min(costs), (house.text(), k))

    def test_1_whatever_k_less_1_of_its_ways_stick(self):
        for house, k, (cost, *ways), proved in self.each_plan(SMALL[:80]):
            sticking = list(itertools.combinations(ways, min(k - 1, len(ways))))[:40]
            if house.smoke_ways():
                self.assertEqual(house.ask(*[survives(ways, some) for some in sticking]), [[0, 1]] * len(sticking))

    def test_2_no_plan_just_where_all_ways_do_not_keep_k(self):
        for house in SMALL + LARGE:
            for k in range(1, 6):
                due = not house.keeps(house.closable, k)
                self.assertEqual(house.ask(plan(k)) == [[-5]], due, (house.text(), k))
                self.assertEqual(house.ask(proof(k)) == [[-5]], due, (house.text(), k))

    def test_3_a_set_keeps_k_just_if_no_k_less_1_that_stick_let_smoke_through(self):
        chance = random.Random(3)
        for house in SMALL[:120]:
            some = [n for n in house.closable if chance.random() < 0.8]
            given = house.ask(weak(some))[0]
            for k in range(1, 5):
                kept = given[1] == 0 or given[2] >= k
                sticking = [n for n in subsets(some) if len(n) <= k - 1]
                survived = house.ask(*[survives(some, n) for n in sticking])
                self.assertEqual(kept, all(answer == [0, 1] for answer in survived), (house.text(), some, k))
                # check tells 1 just where the set doesn't keep k.
                checked = house.ask(check(k, some, [0] * len(house.ways)))[0]
                self.assertEqual(kept, checked != [0, 0, 1], (house.text(), some, k))

    def test_4_each_further_k_costs_at_least_as_much_more(self):
        costs = {}
        for house, k, planned, proved in self.each_plan(SMALL + LARGE):
            costs.setdefault(house, [0]).append(planned[0])
        for house, told in costs.items():
            more = [later - earlier for earlier, later in zip(told, told[1:])]
            self.assertEqual(more, sorted(more), house.text())
            self.assertGreaterEqual(more[0], 0)


if __name__ == "__main__":
    unittest.main()

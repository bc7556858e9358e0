"""Call 8: the weakest way of smoke for a set."""

import random
import unittest

from tests.helper import HOUSE, Made, build, last, made_houses, weak

# Two stairs; the first one has the longer way.
TWO_STAIRS = Made(["stair", "fire", "room", "room", "stair"],
                  [(2, 3, 1, 0), (3, 4, 1, 0), (4, 1, 1, 0), (2, 5, 1, 0)])


class WeakTest(unittest.TestCase):
    def weakest(self, house, some, answer):
        self.assertEqual(house.ask(weak(some)), [answer], (house.text(), some))

    def refused(self, house, some):
        self.weakest(house, some, [-2])


class NoWayOfSmoke(WeakTest):
    def test_no_house(self):
        self.assertEqual(last(weak([])), [0, 0])
        self.assertEqual(last(build(""), weak([])), [0, 0])

    def test_no_fire_no_stair_no_ways(self):
        self.weakest(Made(["room", "stair"], [(1, 2, 1, 1)]), [1], [0, 0])
        self.weakest(Made(["fire", "room"], [(1, 2, 1, 1)]), [1], [0, 0])
        self.weakest(Made(["fire", "stair"], []), [], [0, 0])
        self.weakest(Made(["room", "room"], [(1, 2, 1, 1)]), [], [0, 0])

    def test_not_joined(self):
        house = Made(["fire", "room", "room", "stair"], [(1, 2, 1, 1), (3, 4, 1, 1)])
        for some in ([], [1], [2], [1, 2]):
            self.weakest(house, some, [0, 0])


class Refusals(WeakTest):
    def setUp(self):
        self.house = Made(["fire", "room", "stair"], [(1, 2, 3, 1), (2, 3, 0, 1), (2, 3, 1, 1), (1, 2, 1, 1)])

    def test_right_lists(self):
        self.weakest(self.house, [], [0, 1, 0, 1, 2])
        self.weakest(self.house, [1, 3, 4], [0, 1, 1, 1, 2])

    def test_not_rising(self):
        for some in ([3, 1], [4, 3, 1], [1, 4, 3], [3, 4, 1]):
            self.refused(self.house, some)

    def test_twice_the_same(self):
        for some in ([1, 1], [1, 3, 3], [4, 4], [1, 3, 4, 4]):
            self.refused(self.house, some)

    def test_a_way_that_is_not_there(self):
        for number in (0, -1, 5, 31, 40, -1000000000, 1000000000):
            self.refused(self.house, [number])
        self.refused(self.house, [0, 1])
        self.refused(self.house, [1, 3, 4, 5])
        self.assertEqual(last(weak([1])), [-2])

    def test_a_way_that_can_not_be_closed(self):
        self.refused(self.house, [2])
        self.refused(self.house, [1, 2])
        self.refused(self.house, [1, 2, 3, 4])

    def test_forty_numbers(self):
        self.refused(self.house, list(range(1, 41)))
        self.refused(self.house, [1] * 40)

    def test_refused_though_there_is_no_way_of_smoke(self):
        self.refused(Made(["fire", "stair"], []), [1])
        self.refused(Made(["room", "room"], [(1, 2, 0, 0)]), [1])


class WhichOne(WeakTest):
    def test_told_from_the_fire_to_the_stair(self):
        house = Made(["stair", "room", "room", "fire"], [(1, 2, 1, 1), (3, 2, 1, 1), (3, 4, 1, 1)])
        self.weakest(house, [], [0, 1, 0, 3, 2, 1])
        self.weakest(house, [1, 3], [0, 1, 2, 3, 2, 1])

    def test_fewest_of_the_set_before_all_else(self):
        # A long row without any way of the set wins over a short one, and a later stair over the first.
        self.weakest(TWO_STAIRS, [4], [0, 1, 0, 1, 2, 3])
        self.weakest(TWO_STAIRS, [1], [0, 1, 0, 4])
        self.weakest(TWO_STAIRS, [1, 2, 4], [0, 1, 1, 4])

    def test_of_several_stairs_the_first_though_its_way_is_longer(self):
        self.weakest(TWO_STAIRS, [], [0, 1, 0, 1, 2, 3])
        self.weakest(TWO_STAIRS, [2, 4], [0, 1, 1, 1, 2, 3])

    def test_of_equally_few_the_fewest_ways(self):
        house = Made(["fire", "room", "room", "stair"],
                     [(1, 2, 1, 1), (2, 3, 1, 1), (3, 4, 1, 1), (1, 3, 1, 1)])
        self.weakest(house, [], [0, 1, 0, 4, 3])
        self.weakest(house, [1, 4], [0, 1, 1, 4, 3])
        self.weakest(house, [4], [0, 1, 0, 1, 2, 3])

    def test_from_the_end_backwards_the_least_number(self):
        # From the fire on, 1 and 4 would be first; from the stair back it's 2, behind 3.
        house = Made(["fire", "room", "room", "stair"],
                     [(1, 2, 1, 1), (3, 4, 1, 1), (1, 3, 1, 1), (2, 4, 1, 1)])
        self.weakest(house, [], [0, 1, 0, 3, 2])
        self.weakest(house, [1, 2, 3, 4], [0, 1, 2, 3, 2])
        self.weakest(house, [2], [0, 1, 0, 1, 4])

    def test_a_lesser_number_that_can_not_stand_there(self):
        # Way 1 ends at the stair, too, but on a longer row.
        house = Made(["fire", "room", "room", "stair"],
                     [(2, 4, 1, 1), (3, 4, 1, 1), (1, 3, 1, 1), (3, 2, 1, 1)])
        self.weakest(house, [], [0, 1, 0, 3, 2])
        self.weakest(house, [2], [0, 1, 0, 3, 4, 1])

    def test_several_ways_between_the_same_places(self):
        house = Made(["fire", "stair"], [(1, 2, 1, 1), (2, 1, 1, 1), (1, 2, 0, 1)])
        self.weakest(house, [], [0, 1, 0, 1])
        self.weakest(house, [1], [0, 1, 0, 2])
        self.weakest(house, [1, 2], [0, 1, 0, 3])

    def test_the_nearest_of_several_fires(self):
        house = Made(["fire", "fire", "room", "stair"], [(1, 2, 1, 1), (2, 3, 1, 1), (3, 4, 1, 1), (1, 3, 1, 1)])
        self.weakest(house, [], [0, 1, 0, 2, 3])
        self.weakest(house, [2], [0, 1, 0, 4, 3])
        self.weakest(house, [2, 4], [0, 1, 1, 2, 3])

    def test_on_through_a_stair_to_the_first_one(self):
        house = Made(["fire", "stair", "stair"], [(1, 3, 1, 1), (3, 2, 1, 1)])
        self.weakest(house, [], [0, 1, 0, 1, 2])
        self.weakest(house, [1], [0, 1, 1, 1, 2])
        self.weakest(house, [2], [0, 1, 0, 1])

    def test_prices_and_times_do_not_matter(self):
        house = Made(["fire", "stair"], [(1, 2, 1000000, 1000), (1, 2, 1, 0)])
        self.weakest(house, [], [0, 1, 0, 1])
        self.weakest(house, [1, 2], [0, 1, 1, 1])

    def test_a_row_of_all_places(self):
        house = Made(["fire"] + ["room"] * 14 + ["stair"], [(n, n + 1, 1, 1) for n in range(15, 0, -1)])
        self.weakest(house, list(range(1, 16)), [0, 1, 15] + list(range(15, 0, -1)))

    def test_the_house_of_the_other_tests(self):
        self.assertEqual(last(build(HOUSE), weak([])), [0, 1, 0, 1, 3])
        self.assertEqual(last(build(HOUSE), weak([1, 3, 4])), [0, 1, 0, 5])
        self.assertEqual(last(build(HOUSE), weak([1])), [0, 1, 0, 2, 3])


class MadeHouses(WeakTest):
    def due(self, house, some):
        found = house.smoke_ways()
        if not found:
            return [0, 0]
        ways, stair = min(found, key=lambda way: (len(set(way[0]) & set(some)), way[1], len(way[0]), way[0][::-1]))
        return [0, 1, len(set(ways) & set(some))] + list(ways)

    def test_against_all_ways_of_smoke(self):
        chance = random.Random(8)
        for house in made_houses(81, 400, most_places=7, most_ways=11):
            for n in range(3):
                some = [number for number in house.closable if chance.random() < 0.5]
                self.weakest(house, some, self.due(house, some))


if __name__ == "__main__":
    unittest.main()

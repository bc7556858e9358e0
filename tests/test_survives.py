"""Call 12: whether a set keeps smoke from the stairs though some of it stick."""

import random
import unittest

from tests.helper import Made, build, last, made_houses, survives

# Two rows of two ways each from the fire to the stair, and a way that can't be closed besides.
HOUSE = Made(["fire", "room", "room", "stair", "room"],
             [(1, 2, 1, 1), (2, 4, 1, 1), (1, 3, 1, 1), (4, 3, 1, 1), (3, 5, 0, 1)])


class SurvivesTest(unittest.TestCase):
    def survives(self, some, sticking, answer):
        self.assertEqual(HOUSE.ask(survives(some, sticking)), [answer], (some, sticking))

    def test_nothing_sticks(self):
        for some in ([1, 3], [1, 4], [2, 3], [2, 4], [1, 2, 3, 4], [1, 2, 3]):
            self.survives(some, [], [0, 1])
        for some in ([], [1], [4], [1, 2], [3, 4]):
            self.survives(some, [], [0, 0])

    def test_some_stick(self):
        self.survives([1, 2, 3, 4], [1], [0, 1])
        self.survives([1, 2, 3, 4], [2, 3], [0, 1])
        self.survives([1, 2, 3, 4], [1, 2], [0, 0])
        self.survives([1, 2, 3, 4], [3, 4], [0, 0])
        self.survives([1, 3], [3], [0, 0])

    def test_all_stick(self):
        self.survives([1, 2, 3, 4], [1, 2, 3, 4], [0, 0])
        self.survives([1, 3], [1, 3], [0, 0])

    def test_sticking_ways_that_are_not_of_the_first_set(self):
        self.survives([1, 3], [2, 4], [0, 1])
        self.survives([1, 3], [2], [0, 1])
        self.survives([], [1, 2, 3, 4], [0, 0])
        self.survives([1, 2, 3], [1, 4], [0, 1])

    def test_no_way_of_smoke(self):
        self.assertEqual(last(survives([], [])), [0, 1])
        for kinds in (["fire", "room"], ["room", "stair"], ["room", "room"], ["fire", "fire"], ["stair", "stair"]):
            house = Made(kinds, [(1, 2, 1, 1)])
            self.assertEqual(house.ask(survives([], []), survives([1], [1])), [[0, 1], [0, 1]])

    def test_every_fire_and_every_stair_counts(self):
        house = Made(["fire", "stair", "stair", "fire"], [(1, 2, 1, 1), (4, 3, 1, 1)])
        self.assertEqual(house.ask(survives([1, 2], []), survives([1], []), survives([2], []), survives([1, 2], [2])),
                         [[0, 1], [0, 0], [0, 0], [0, 0]])

    def test_a_way_that_can_not_be_closed(self):
        house = Made(["fire", "stair"], [(1, 2, 1, 1), (1, 2, 0, 1)])
        self.assertEqual(house.ask(survives([1], [])), [[0, 0]])

    def test_refusals(self):
        wrong = ([2, 1], [1, 1], [0], [-1], [5], [1, 5], [6], [31], [-1000000000], [1000000000], list(range(1, 41)))
        for some in wrong:
            self.survives(some, [], [-2])
            self.survives([], some, [-2])
            self.survives([1, 3], some, [-2])
            self.survives(some, some, [-2])
        self.assertEqual(last(survives([1], [])), [-2])
        self.assertEqual(last(build(""), survives([], [1])), [-2])

    def test_against_all_ways_of_smoke(self):
        chance = random.Random(12)
        for house in made_houses(121, 400, most_places=7, most_ways=10):
            some = [n for n in house.closable if chance.random() < 0.7]
            sticking = [n for n in house.closable if chance.random() < 0.3]
            closed = set(some) - set(sticking)
            due = int(all(closed & set(ways) for ways, stair in house.smoke_ways()))
            self.assertEqual(house.ask(survives(some, sticking)), [[0, due]], house.text())


if __name__ == "__main__":
    unittest.main()

"""Call 14: by when the ways of a set have to be shut."""

import random
import unittest

from tests.helper import Made, arrive, build, last, latest, made_houses

NEVER = 1000000
# From the fire two rows to the stair: 2 then 3, and 5 then 4; behind the stair another room.
HOUSE = Made(["fire", "room", "stair", "room", "room", "room"],
             [(1, 2, 1, 2), (2, 3, 1, 3), (1, 4, 1, 5), (3, 4, 1, 4), (3, 5, 0, 7)])


class LatestTest(unittest.TestCase):
    def latest(self, start, some, answer):
        self.assertEqual(HOUSE.ask(latest(start, some)), [answer], (start, some))

    def test_a_greatest_time(self):
        self.latest(1, [1, 3], [0, 0])
        self.latest(1, [2, 4], [0, 2])
        self.latest(1, [1, 4], [0, 0])
        self.latest(2, [2, 3], [0, 0])
        self.latest(2, [2, 4], [0, 0])

    def test_a_set_with_several_ways_on_one_row(self):
        # Smoke that is past the first of two is kept by the second, which it comes to later.
        self.latest(1, [1, 2, 3, 4], [0, 2])
        self.latest(4, [2, 4], [0, 0])
        self.latest(4, [1, 2, 4], [0, 0])

    def test_the_greatest_time_is_just_kept(self):
        for start, some in ((1, [1, 3]), (1, [2, 4]), (1, [1, 2, 3, 4]), (2, [2, 3])):
            time = HOUSE.ask(latest(start, some))[0][1]
            for later in (0, 1):
                shut_by = [time + later if n in some else NEVER for n in range(1, 6)]
                came = HOUSE.ask(arrive(start, shut_by))[0][3]
                self.assertEqual(came == -1, later == 0)

    def test_to_none_though_never_shut(self):
        self.latest(6, [], [0, -1])
        self.latest(6, [1, 2, 3, 4], [0, -1])
        no_stair = Made(["fire", "room"], [(1, 2, 1, 1)])
        self.assertEqual(no_stair.ask(latest(1, []), latest(2, [1])), [[0, -1], [0, -1]])
        self.assertEqual(Made(["fire", "stair"], []).ask(latest(1, [])), [[0, -1]])

    def test_to_one_though_shut_by_0(self):
        self.latest(1, [], [-6])
        self.latest(1, [1], [-6])
        self.latest(1, [2], [-6])
        self.latest(1, [1, 2], [-6])
        self.latest(5, [1, 2, 3, 4], [-6])

    def test_from_a_stair(self):
        self.latest(3, [], [-6])
        self.latest(3, [1, 2, 3, 4], [-6])
        self.assertEqual(Made(["stair"], []).ask(latest(1, [])), [[-6]])

    def test_every_stair_counts(self):
        house = Made(["room", "stair", "stair"], [(1, 2, 1, 1), (1, 3, 1, 9)])
        self.assertEqual(house.ask(latest(1, [1]), latest(1, [2]), latest(1, [1, 2])), [[-6], [-6], [0, 0]])

    def test_later_by_a_longer_row(self):
        # Shut by 4 the quick way is shut; the slow row comes to the last way at 20.
        house = Made(["fire", "room", "room", "stair"], [(1, 2, 1, 4), (2, 3, 1, 0), (1, 3, 1, 20), (3, 4, 1, 1)])
        self.assertEqual(house.ask(latest(1, [4]), latest(1, [2, 4]), latest(1, [2, 3]), latest(1, [2, 3, 4])),
                         [[0, 4], [0, 4], [0, 0], [0, 4]])

    def test_a_set_that_slows_itself(self):
        # Shut by 5 the third place is come to at 20 only, when the last way is shut; by 6 it is come to at 5.
        house = Made(["fire", "room", "room", "stair"], [(1, 2, 0, 5), (2, 3, 1, 0), (1, 3, 0, 20), (3, 4, 1, 1)])
        self.assertEqual(house.ask(latest(1, [2, 4])), [[0, 5]])
        self.assertEqual(house.ask(latest(1, [4])), [[0, 5]])
        self.assertEqual(house.ask(latest(1, [2])), [[-6]])

    def test_as_late_as_can_be(self):
        house = Made(["fire"] + ["room"] * 14 + ["stair"], [(n, n + 1, 1, 1000) for n in range(1, 16)])
        self.assertEqual(house.ask(latest(1, [15])), [[0, 14000]])
        self.assertEqual(house.ask(latest(1, [1, 15])), [[0, 14000]])
        self.assertEqual(house.ask(latest(1, [1])), [[0, 0]])
        self.assertEqual(house.ask(latest(1, [14])), [[0, 13000]])

    def test_refusals_in_order(self):
        for place in (0, -1, 7, 17, -1000000000, 1000000000):
            self.latest(place, [1, 3], [-1])
            self.latest(place, [3, 1], [-1])
            self.latest(place, [], [-1])
        for some in ([3, 1], [1, 1], [0], [-1], [5], [4, 5], [6], [31], [1000000000], list(range(1, 41))):
            self.latest(1, some, [-2])
            # Due too: to a stair though shut by 0, or to none though never shut.
            self.latest(3, some, [-2])
            self.latest(6, some, [-2])
        self.assertEqual(last(latest(1, [])), [-1])
        self.assertEqual(last(build(""), latest(0, [1])), [-1])

    def due(self, house, start, some):
        """By trying all times, with what arrive answers."""
        stairs = house.of_kind("stair")

        def kept(time):
            shut_by = [time if n in some else NEVER for n in range(1, len(house.ways) + 1)]
            came = house.ask(arrive(start, shut_by))[0][1:]
            return all(came[stair - 1] == -1 for stair in stairs)

        if kept(NEVER):
            return [0, -1]
        times = [time for time in range(40) if kept(time)]
        return [0, max(times)] if times else [-6]

    def test_against_all_times(self):
        chance = random.Random(14)
        for house in made_houses(141, 150, most_places=7, most_ways=8):
            some = [n for n in house.closable if chance.random() < 0.7]
            for start in range(1, len(house.kinds) + 1):
                self.assertEqual(house.ask(latest(start, some)), [self.due(house, start, some)],
                                 (house.text(), start, some))


if __name__ == "__main__":
    unittest.main()

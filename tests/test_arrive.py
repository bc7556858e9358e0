"""Call 13: when smoke comes where."""

import random
import unittest

from tests.helper import Made, arrive, build, last, made_houses

NEVER = 1000000
# A quick row over the second place, a slow way past it, a last place behind; and a lone one.
HOUSE = Made(["room", "fire", "room", "stair", "room"],
             [(1, 2, 1, 3), (3, 2, 0, 0), (1, 3, 1, 10), (3, 4, 1, 1000)])


def times_along(house, start, shut_by):
    """For each place the least time over all rows of ways that are still open when smoke comes to them."""
    found = [-1] * len(house.kinds)
    for ways, end in house.rows_from(start):
        time = 0
        for n in ways:
            time = time + house.ways[n - 1][3] if time is not None and time < shut_by[n - 1] else None
        if time is not None and (found[end - 1] == -1 or time < found[end - 1]):
            found[end - 1] = time
    return found


class ArriveTest(unittest.TestCase):
    def arrives(self, start, times, answer):
        self.assertEqual(HOUSE.ask(arrive(start, times)), [answer], (start, times))

    def test_never_shut(self):
        self.arrives(1, [NEVER] * 4, [0, 0, 3, 3, 1003, -1])
        self.arrives(2, [NEVER] * 4, [0, 3, 0, 0, 1000, -1])
        self.arrives(3, [NEVER] * 4, [0, 3, 0, 0, 1000, -1])
        self.arrives(4, [NEVER] * 4, [0, 1003, 1000, 1000, 0, -1])
        self.arrives(5, [NEVER] * 4, [0, -1, -1, -1, -1, 0])

    def test_shut_by_0(self):
        self.arrives(1, [0, 0, 0, 0], [0, 0, -1, -1, -1, -1])
        self.arrives(2, [0, 0, 0, 0], [0, -1, 0, -1, -1, -1])
        self.arrives(1, [1, 0, 0, 0], [0, 0, 3, -1, -1, -1])

    def test_shut_just_when_smoke_comes_and_one_later(self):
        self.arrives(1, [1, 3, 0, NEVER], [0, 0, 3, -1, -1, -1])
        self.arrives(1, [1, 4, 0, NEVER], [0, 0, 3, 3, 1003, -1])
        self.arrives(1, [1, 4, 0, 3], [0, 0, 3, 3, -1, -1])
        self.arrives(1, [1, 4, 0, 4], [0, 0, 3, 3, 1003, -1])

    def test_smoke_within_a_way_comes_through_though_it_is_shut_meanwhile(self):
        self.arrives(4, [0, 0, 0, 1], [0, -1, -1, 1000, 0, -1])
        self.arrives(4, [0, 0, 1000, 1], [0, -1, -1, 1000, 0, -1])
        self.arrives(4, [0, 0, 1001, 1], [0, 1010, -1, 1000, 0, -1])

    def test_a_way_of_time_0(self):
        self.arrives(3, [0, 1, 0, 0], [0, -1, 0, 0, -1, -1])
        self.arrives(2, [0, 1, 0, 0], [0, -1, 0, 0, -1, -1])
        self.arrives(2, [0, 1, 0, 1], [0, -1, 0, 0, 1000, -1])

    def test_later_by_another_row_as_the_quicker_way_is_shut(self):
        self.arrives(1, [NEVER, 3, NEVER, NEVER], [0, 0, 3, 10, 1010, -1])
        self.arrives(1, [0, NEVER, NEVER, NEVER], [0, 0, 10, 10, 1010, -1])
        self.arrives(1, [0, 10, 1, NEVER], [0, 0, -1, 10, 1010, -1])

    def test_a_quicker_row_that_is_found_later(self):
        # The slow way has the least number; all places behind it come sooner by the others.
        house = Made(["room"] * 4, [(1, 4, 1, 100), (4, 3, 1, 1), (3, 2, 1, 1), (2, 1, 1, 1)])
        self.assertEqual(house.ask(arrive(1, [NEVER] * 4)), [[0, 0, 1, 2, 3]])
        self.assertEqual(house.ask(arrive(1, [NEVER, 2, NEVER, NEVER])), [[0, 0, 1, 2, 100]])

    def test_a_row_of_all_places(self):
        house = Made(["room"] * 16, [(n, n + 1, 1, 1000) for n in range(15, 0, -1)])
        self.assertEqual(house.ask(arrive(1, [NEVER] * 15)), [[0] + [1000 * n for n in range(16)]])
        self.assertEqual(house.ask(arrive(1, [14001] * 15)), [[0] + [1000 * n for n in range(16)]])
        self.assertEqual(house.ask(arrive(1, [14000] * 15)), [[0] + [1000 * n for n in range(15)] + [-1]])

    def test_no_ways(self):
        self.assertEqual(Made(["room", "stair"], []).ask(arrive(1, []), arrive(2, [])), [[0, 0, -1], [0, -1, 0]])

    def test_a_place_that_is_not_there(self):
        for place in (0, -1, 6, 17, -1000000000, 1000000000):
            self.arrives(place, [NEVER] * 4, [-1])
        self.assertEqual(last(arrive(1, [])), [-1])
        self.assertEqual(last(build(""), arrive(0, [])), [-1])

    def test_a_list_of_another_length(self):
        for length in (0, 1, 3, 5, 40):
            self.arrives(1, [1] * length, [-2])
        self.assertEqual(Made(["room"], []).ask(arrive(1, [0])), [[-2]])

    def test_a_time_out_of_range(self):
        for time in (-1, NEVER + 1, -1000000000, 1000000000):
            for place in range(4):
                times = [NEVER] * 4
                times[place] = time
                self.arrives(1, times, [-2])

    def test_several_wrong_together(self):
        self.arrives(0, [NEVER] * 3, [-1])
        self.arrives(6, [NEVER, NEVER, NEVER, -1], [-1])
        self.arrives(-1, [NEVER + 1] * 5, [-1])
        self.arrives(1, [NEVER + 1] * 5, [-2])

    def test_promise_5_against_all_rows(self):
        chance = random.Random(13)
        for house in made_houses(131, 400, most_places=7, most_ways=10):
            shut_by = [chance.choice([0, 1, 2, 3, 4, 5, 6, 8, 10, NEVER]) for way in house.ways]
            for start in range(1, len(house.kinds) + 1):
                self.assertEqual(house.ask(arrive(start, shut_by)), [[0] + times_along(house, start, shut_by)],
                                 (house.text(), start, shut_by))


if __name__ == "__main__":
    unittest.main()

"""Call 7: where smoke comes from a place."""

import unittest

from tests.helper import FREE, HOUSE, NOW, PRINTED, build, close, last, reopen, run, smoke, stick

RING = ("room a\nroom b\nroom c\nroom d\nroom e\n"
        "way ab a b 1 9\nway cb c b 1 9\nway cd c d 1 9\nway ad a d 1 9\n")


def chain(count):
    text = "".join(f"room p{n}\n" for n in range(count))
    return text + "".join(f"way w{n} p{n} p{n + 1} 1 1\n" for n in range(count - 1))


class SmokeTest(unittest.TestCase):
    def test_by_ways_in_both_directions(self):
        for start in (1, 2, 3, 4):
            self.assertEqual(last(build(RING), smoke(start)), [0, 1, 2, 3, 4])
        text = "room a\nroom b\nroom c\nway w a b 1 1\nway v c b 1 1\n"
        for start in (1, 2, 3):
            self.assertEqual(last(build(text), smoke(start)), [0, 1, 2, 3])

    def test_a_place_without_ways(self):
        self.assertEqual(last(build(RING), smoke(5)), [0, 5])
        self.assertEqual(last(build("stair a\n"), smoke(1)), [0, 1])

    def test_round_a_closed_way(self):
        self.assertEqual(last(build(RING), close(1), smoke(1)), [0, 1, 2, 3, 4])

    def test_closed_ways_keep_it(self):
        self.assertEqual(last(build(RING), close(1), close(3), smoke(1)), [0, 1, 4])
        self.assertEqual(last(build(RING), close(1), close(3), smoke(4)), [0, 1, 4])
        self.assertEqual(last(build(RING), close(1), close(3), smoke(2)), [0, 2, 3])
        self.assertEqual(last(build(RING), close(1), close(3), smoke(3)), [0, 2, 3])
        self.assertEqual(last(build(RING), close(1), close(4), smoke(1)), [0, 1])

    def test_one_of_two_ways_between_the_same_places(self):
        self.assertEqual(last(build(HOUSE), close(1), smoke(1)), [0, 1, 2, 3, 4, 5])
        text = "room a\nroom b\nway w a b 1 1\nway v b a 1 1\n"
        self.assertEqual(last(build(text), close(1), smoke(1)), [0, 1, 2])
        self.assertEqual(last(build(text), close(2), smoke(1)), [0, 1, 2])
        self.assertEqual(last(build(text), close(1), close(2), smoke(1)), [0, 1])

    def test_a_way_that_is_not_closed_any_more(self):
        self.assertEqual(last(build(RING), close(1), close(3), reopen(3), smoke(1)), [0, 1, 2, 3, 4])

    def test_stuck_ways_let_through_as_they_are(self):
        self.assertEqual(last(build(RING), stick(1), stick(4), smoke(1)), [0, 1, 2, 3, 4])
        self.assertEqual(last(build(RING), close(1), close(4), stick(1), stick(4), smoke(1)), [0, 1])
        self.assertEqual(last(build(RING), close(1), close(4), stick(1), FREE, smoke(1)), [0, 1])

    def test_fires_and_stairs_are_gone_through_like_rooms(self):
        text = "room a\nfire b\nstair c\nroom d\nway w a b 1 1\nway v b c 1 1\nway u c d 0 1\n"
        self.assertEqual(last(build(text), smoke(1)), [0, 1, 2, 3, 4])

    def test_places_in_order_though_come_to_in_another(self):
        text = "room a\nroom b\nroom c\nroom d\nway w a d 1 1\nway v d c 1 1\nway u c b 1 1\n"
        self.assertEqual(last(build(text), smoke(3)), [0, 1, 2, 3, 4])
        self.assertEqual(last(build(text), close(3), smoke(3)), [0, 1, 3, 4])

    def test_a_row_of_all_places(self):
        self.assertEqual(last(build(chain(16)), smoke(1)), [0] + list(range(1, 17)))
        self.assertEqual(last(build(chain(16)), smoke(16)), [0] + list(range(1, 17)))
        self.assertEqual(last(build(chain(16)), close(8), smoke(16)), [0] + list(range(9, 17)))

    def test_no_such_place(self):
        for place in (0, -1, 6, 7, 16, 17, -1000000000, 1000000000):
            self.assertEqual(last(build(RING), smoke(place)), [-1])
        for place in (0, 1, -1):
            self.assertEqual(last(smoke(place)), [-1])
            self.assertEqual(last(build(""), smoke(place)), [-1])
        self.assertEqual(last(build(chain(16)), smoke(17)), [-1])

    def test_asking_changes_nothing(self):
        given = run(build(RING), close(1), stick(2), NOW, PRINTED, smoke(1), smoke(9), NOW, PRINTED)
        self.assertEqual(given[3:5], given[7:9])


if __name__ == "__main__":
    unittest.main()

"""Calls 2 to 6: ways closed, not closed any more, stuck and freed, and how they are now."""

import unittest

from tests.helper import FREE, HOUSE, NOW, build, close, last, reopen, run, stick

# HOUSE has the ways 1 to 5; way 2 has the price 0.
NO_WAYS = (0, 6, -1, -2, 7, 30, 31, -1000000000, 1000000000)


class DoorsTest(unittest.TestCase):
    def after(self, calls, expected, now):
        """These calls on HOUSE answer this, and leave this."""
        given = run(build(HOUSE), *calls, NOW)
        self.assertEqual(given[1:-1], expected)
        self.assertEqual(given[-1], now)


class CloseTest(DoorsTest):
    def test_first_and_last_way(self):
        self.after([close(1)], [[0]], [0, 1, 1, 0])
        self.after([close(5)], [[0]], [0, 1, 5, 0])

    def test_no_such_way(self):
        for way in NO_WAYS:
            self.after([close(way)], [[-1]], [0, 0, 0])

    def test_no_way_at_all(self):
        for way in (0, 1, -1):
            self.assertEqual(last(close(way)), [-1])
            self.assertEqual(last(build("room a\n"), close(way)), [-1])

    def test_price_0(self):
        self.after([close(2)], [[-3]], [0, 0, 0])

    def test_price_1(self):
        self.after([close(5), close(4)], [[0], [0]], [0, 2, 4, 5, 0])

    def test_closed_already(self):
        self.after([close(1), close(1)], [[0], [0]], [0, 1, 1, 0])

    def test_stuck_and_not_closed(self):
        self.after([stick(1), close(1)], [[0], [-4]], [0, 0, 1, 1])

    def test_stuck_and_closed(self):
        self.after([close(1), stick(1), close(1)], [[0], [0], [-4]], [0, 1, 1, 1, 1])

    def test_price_0_is_told_before_stuck(self):
        self.after([stick(2), close(2)], [[0], [-3]], [0, 0, 1, 2])

    def test_another_one_is_stuck(self):
        self.after([stick(1), close(3)], [[0], [0]], [0, 1, 3, 1, 1])

    def test_way_30(self):
        text = "room a\nroom b\n" + "".join(f"way w{n} a b 1 1\n" for n in range(30))
        self.assertEqual(run(build(text), close(30), close(31), NOW)[1:], [[0], [-1], [0, 1, 30, 0]])


class ReopenTest(DoorsTest):
    def test_first_and_last_way(self):
        self.after([close(1), close(5), reopen(1)], [[0], [0], [0]], [0, 1, 5, 0])
        self.after([close(1), close(5), reopen(5)], [[0], [0], [0]], [0, 1, 1, 0])

    def test_not_closed(self):
        self.after([reopen(1)], [[0]], [0, 0, 0])
        self.after([close(3), reopen(3), reopen(3)], [[0], [0], [0]], [0, 0, 0])

    def test_price_0(self):
        self.after([reopen(2)], [[0]], [0, 0, 0])
        self.after([stick(2), reopen(2)], [[0], [-4]], [0, 0, 1, 2])

    def test_no_such_way(self):
        for way in NO_WAYS:
            self.after([close(1), close(5), reopen(way)], [[0], [0], [-1]], [0, 2, 1, 5, 0])
        self.assertEqual(last(reopen(1)), [-1])
        self.assertEqual(last(reopen(0)), [-1])

    def test_stuck_and_closed(self):
        self.after([close(1), stick(1), reopen(1)], [[0], [0], [-4]], [0, 1, 1, 1, 1])

    def test_stuck_and_not_closed(self):
        self.after([stick(1), reopen(1)], [[0], [-4]], [0, 0, 1, 1])

    def test_closed_again(self):
        self.after([close(1), reopen(1), close(1)], [[0], [0], [0]], [0, 1, 1, 0])


class StickTest(DoorsTest):
    def test_as_it_is(self):
        self.after([stick(1), stick(5)], [[0], [0]], [0, 0, 2, 1, 5])
        self.after([close(1), stick(1)], [[0], [0]], [0, 1, 1, 1, 1])

    def test_price_0(self):
        self.after([stick(2)], [[0]], [0, 0, 1, 2])

    def test_stuck_already(self):
        self.after([stick(4), stick(4)], [[0], [0]], [0, 0, 1, 4])

    def test_no_such_way(self):
        for way in NO_WAYS:
            self.after([stick(way)], [[-1]], [0, 0, 0])
        self.assertEqual(last(stick(1)), [-1])
        self.assertEqual(last(stick(0)), [-1])


class FreeTest(DoorsTest):
    def test_nothing_stuck(self):
        self.assertEqual(run(FREE, NOW), [[0], [0, 0, 0]])
        self.after([FREE], [[0]], [0, 0, 0])

    def test_what_is_closed_stays(self):
        self.after([close(3), close(1), stick(3), stick(2), FREE], [[0]] * 5, [0, 2, 1, 3, 0])

    def test_ways_move_again(self):
        self.after([close(1), stick(1), stick(3), FREE, reopen(1), close(3)], [[0]] * 6, [0, 1, 3, 0])

    def test_stuck_again(self):
        self.after([stick(1), FREE, stick(4)], [[0]] * 3, [0, 0, 1, 4])


class NowTest(DoorsTest):
    def test_before_any_build(self):
        self.assertEqual(last(NOW), [0, 0, 0])

    def test_both_lists_in_order(self):
        calls = [close(5), close(1), close(4), stick(3), stick(5), stick(2)]
        self.after(calls, [[0]] * 6, [0, 3, 1, 4, 5, 3, 2, 3, 5])

    def test_all_ways(self):
        text = "room a\nroom b\n" + "".join(f"way w{n} a b 1 1\n" for n in range(30))
        calls = [close(n) for n in range(30, 0, -1)] + [stick(n) for n in range(30, 0, -1)]
        every = list(range(1, 31))
        self.assertEqual(last(build(text), *calls, NOW), [0, 30] + every + [30] + every)

    def test_asking_changes_nothing(self):
        self.after([close(1), stick(4), NOW, NOW], [[0], [0], [0, 1, 1, 1, 4], [0, 1, 1, 1, 4]], [0, 1, 1, 1, 4])


if __name__ == "__main__":
    unittest.main()

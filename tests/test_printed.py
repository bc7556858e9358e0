"""Call 1: the house printed."""

import unittest

from tests.helper import FREE, HOUSE, PRINTED, build, bytes_of, close, last, reopen, smoke, stick


class PrintedTest(unittest.TestCase):
    def test_before_any_build(self):
        self.assertEqual(last(PRINTED), [0])

    def test_an_empty_house(self):
        self.assertEqual(last(build(""), PRINTED), [0])

    def test_byte_for_byte(self):
        self.assertEqual(last(build("fire a1\n"), PRINTED), [0, 102, 105, 114, 101, 32, 97, 49, 10])
        self.assertEqual(last(build(HOUSE), PRINTED), bytes_of(HOUSE))

    def test_places_before_ways_each_in_order(self):
        text = "stair z\nroom y\nway w z y 3 4\nfire b\nway v y z 0 0\nroom a\nway a1 b a 10 20\n"
        printed = "stair z\nroom y\nfire b\nroom a\nway w z y 3 4\nway v y z 0 0\nway a1 b a 10 20\n"
        self.assertEqual(last(build(text), PRINTED), bytes_of(printed))

    def test_the_ends_of_a_way_in_the_order_told(self):
        for ends in ("a b", "b a"):
            text = f"room a\nroom b\nway w {ends} 1000000 1000\n"
            self.assertEqual(last(build(text), PRINTED), bytes_of(text))

    def test_every_sign_of_names_and_numbers(self):
        text = ("room abcdefghijkl\nfire mnopqrstuvwx\nstair yz0123456789\n"
                "way w abcdefghijkl yz0123456789 123456 789\nway v mnopqrstuvwx abcdefghijkl 0 0\n")
        self.assertEqual(last(build(text), PRINTED), bytes_of(text))

    def test_what_is_closed_or_stuck_is_not_printed(self):
        calls = [build(HOUSE), close(1), stick(1), stick(3), smoke(1), reopen(1), FREE]
        for count in range(1, len(calls) + 1):
            self.assertEqual(last(*calls[:count], PRINTED), bytes_of(HOUSE))

    def test_what_is_printed_can_be_built_again(self):
        printed = last(build(HOUSE), PRINTED)[1:]
        self.assertEqual(last(build(printed)), [0, 6, 5, 2, 2])


if __name__ == "__main__":
    unittest.main()

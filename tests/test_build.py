"""Call 0: texts of houses, right and wrong."""

import unittest

from tests.helper import HOUSE, NOW, PRINTED, build, bytes_of, close, last, run, stick

TWO = "room a\nroom b\n"


def places(count):
    return "".join(f"room p{n}\n" for n in range(1, count + 1))


def ways(count):
    return "".join(f"way w{n} a b {n} {n}\n" for n in range(1, count + 1))


class BuildTest(unittest.TestCase):
    def right(self, text, counts):
        self.assertEqual(last(build(text)), [0] + counts, text)

    def wrong(self, text, line, why):
        self.assertEqual(last(build(text)), [1, line, why], text)


class RightTexts(BuildTest):
    def test_empty_text(self):
        self.right("", [0, 0, 0, 0])

    def test_counts_of_places_ways_fires_and_stairs(self):
        self.right("room a\n", [1, 0, 0, 0])
        self.right("fire a\n", [1, 0, 1, 0])
        self.right("stair a\n", [1, 0, 0, 1])
        self.right(HOUSE, [6, 5, 2, 2])
        self.right("stair a\nstair b\nfire c\nstair d\n", [4, 0, 1, 3])

    def test_places_may_come_behind_ways(self):
        self.right(TWO + "way w a b 1 1\nfire c\nway v c a 1 1\n", [3, 2, 1, 0])

    def test_several_ways_between_the_same_two_places(self):
        self.right(TWO + "way w a b 1 1\nway v a b 1 1\nway u b a 2 2\n", [2, 3, 0, 0])

    def test_words_of_the_text_may_be_names(self):
        self.right("room room\nfire way\nstair stair\nway fire room way 0 0\n", [3, 1, 1, 1])

    def test_most_places(self):
        self.right(places(16), [16, 0, 0, 0])

    def test_most_ways(self):
        self.right(TWO + ways(30), [2, 30, 0, 0])

    def test_places_of_all_kinds_are_counted_together(self):
        text = places(6) + "".join(f"fire f{n}\nstair s{n}\n" for n in range(5))
        self.right(text, [16, 0, 5, 5])
        self.wrong(text + "stair more\n", 17, 4)

    def test_names(self):
        for name in ("a", "z", "a0", "z9", "abcdefghijkl", "a23456789012"):
            self.right(f"room {name}\n", [1, 0, 0, 0])

    def test_numbers(self):
        for price in ("0", "1", "9", "10", "999999", "1000000"):
            self.right(TWO + f"way w a b {price} 0\n", [2, 1, 0, 0])
        for time in ("0", "1", "9", "10", "999", "1000"):
            self.right(TWO + f"way w a b 0 {time}\n", [2, 1, 0, 0])

    def test_a_long_text(self):
        names = [f"abcdefghijk{letter}" for letter in "abcdefghijklmnop"]
        text = "".join(f"stair {name}\n" for name in names)
        for n in range(30):
            text += f"way wwwwwwwwww{n:02} {names[n % 16]} {names[n % 16 - 1]} 1000000 1000\n"
        self.right(text, [16, 30, 0, 16])


class WrongForm(BuildTest):
    def test_empty_lines(self):
        self.wrong("\n", 1, 1)
        self.wrong("\n\n", 1, 1)
        self.wrong("room a\n\n", 2, 1)
        self.wrong("room a\n\nroom b\n", 2, 1)

    def test_words_that_begin_a_line(self):
        for word in ("rooms", "roo", "Room", "ROOM", "fir", "stairs", "door", "a", "?", "roomway", "0"):
            self.wrong(f"{word} a\n", 1, 1)
        for word in ("ways", "wa", "Way", "room", "fire", "stair"):
            self.wrong(TWO + f"{word} w a b 1 1\n", 3, 1)

    def test_too_few_and_too_many_words(self):
        for line in ("room", "fire", "stair", "way", "room a b", "fire a 1", "stair a a"):
            self.wrong(line + "\n", 1, 1)
        for line in ("way w", "way w a", "way w a b", "way w a b 1", "way w a b 1 1 1", "way w a b c 1 1"):
            self.wrong(TWO + line + "\n", 3, 1)

    def test_blanks(self):
        for line in (" room c", "room c ", "room  c", " ", "  ", "room ", "room  ", "room\tc", "room c\r"):
            self.wrong(TWO + line + "\n", 3, 1)
        right = "way w a b 1 1"
        self.wrong(TWO + " " + right + "\n", 3, 1)
        self.wrong(TWO + right + " \n", 3, 1)
        for at in [n for n, sign in enumerate(right) if sign == " "]:
            self.wrong(TWO + right[:at] + " " + right[at:] + "\n", 3, 1)

    def test_misspelled_names(self):
        for name in ("abcdefghijklm", "a234567890123", "1a", "0", "9z", "A", "aB", "aBc", "Kitchen", "a_b", "a-b",
                     "a.b", "?", "a?", "", "\xe9", "a\xe9", "a\xb2", "\xb5", "a`", "a{", "a/", "a:"):
            for kind in ("room", "fire", "stair"):
                self.wrong(f"{kind} {name}\n", 1, 1)
            self.wrong(TWO + f"way {name} a b 1 1\n", 3, 1)
            self.wrong(TWO + f"way w {name} b 1 1\n", 3, 1)
            self.wrong(TWO + f"way w a {name} 1 1\n", 3, 1)

    def test_misspelled_numbers(self):
        for number in ("", "00", "01", "007", "0000000", "0000001", "00000001", "-1", "+1", "1x", "x1", "a", "1.0",
                       "1_0", "\xb2", "1\xb9", "?", "12345678", "10000000"):
            self.wrong(TWO + f"way w a b {number} 1\n", 3, 1)
            self.wrong(TWO + f"way w a b 1 {number}\n", 3, 1)

    def test_numbers_out_of_range(self):
        for price in ("1000001", "1000010", "9999999"):
            self.wrong(TWO + f"way w a b {price} 1\n", 3, 1)
        for time in ("1001", "1010", "9999", "1000000", "9999999"):
            self.wrong(TWO + f"way w a b 1 {time}\n", 3, 1)

    def test_every_byte_within_a_name(self):
        small = list(range(ord("a"), ord("z") + 1))
        digits = list(range(ord("0"), ord("9") + 1))
        ended = list(b"room ")
        for byte in range(256):
            first = last(build(ended + [byte, 10]))
            self.assertEqual(first, [0, 1, 0, 0, 0] if byte in small else [1, 1, 1], byte)
            later = last(build(ended + [ord("q"), byte, ord("q"), 10]))
            if byte in small + digits:
                self.assertEqual(later, [0, 1, 0, 0, 0], byte)
            elif byte == 10:
                self.assertEqual(later, [1, 2, 1], byte)
            else:
                self.assertEqual(later, [1, 1, 1], byte)

    def test_every_byte_within_a_number(self):
        digits = list(range(ord("0"), ord("9") + 1))
        for byte in range(256):
            text = list(b"room a\nroom b\nway w a b 1") + [byte] + list(b" 1\n")
            self.assertEqual(last(build(text)), [0, 2, 1, 0, 0] if byte in digits else [1, 3, 1], byte)

    def test_every_byte_in_the_place_of_a_blank(self):
        for byte in range(256):
            self.assertEqual(last(build(list(b"fire") + [byte] + list(b"a\n"))),
                             [0, 1, 0, 1, 0] if byte == 32 else [1, 1, 1], byte)


class OtherReasons(BuildTest):
    def test_a_name_that_is_there(self):
        self.wrong("room a\nroom a\n", 2, 2)
        self.wrong("room a\nstair b\nfire a\n", 3, 2)
        self.wrong(TWO + "way w a b 1 1\nway w a b 1 1\n", 4, 2)

    def test_a_name_that_a_place_and_a_way_would_share(self):
        self.wrong(TWO + "way a a b 1 1\n", 3, 2)
        self.wrong(TWO + "way w a b 1 1\nroom w\n", 4, 2)

    def test_a_place_that_is_not_there(self):
        self.wrong(TWO + "way w c b 1 1\n", 3, 3)
        self.wrong(TWO + "way w a c 1 1\n", 3, 3)
        self.wrong("way w a b 1 1\n", 1, 3)
        self.wrong("room a\nway w a b 1 1\nroom b\n", 2, 3)

    def test_a_way_is_no_place(self):
        self.wrong(TWO + "way w a b 1 1\nway v a w 1 1\n", 4, 3)
        self.wrong(TWO + "way w a b 1 1\nway v w a 1 1\n", 4, 3)
        self.wrong(TWO + "way w w a 1 1\n", 3, 3)

    def test_one_place_too_many(self):
        for kind in ("room", "fire", "stair"):
            self.wrong(places(16) + f"{kind} more\n", 17, 4)

    def test_one_way_too_many(self):
        self.wrong(TWO + ways(31), 33, 4)

    def test_places_and_ways_are_not_counted_together(self):
        self.right(TWO + ways(30) + places(14), [16, 30, 0, 0])
        self.wrong(TWO + ways(30) + places(15), 47, 4)

    def test_a_way_of_a_place_with_itself(self):
        self.wrong(TWO + "way w a a 1 1\n", 3, 5)
        self.wrong(TWO + "way v a b 1 1\nway w b b 0 0\n", 4, 5)


class SeveralReasons(BuildTest):
    def test_form_before_all_others(self):
        full = TWO + ways(30)
        for line in ("way w1 a b 01 1", "way w1 a b 1000001 1", "way w1 a b 1 1001", "way w1 c b 1 1 1",
                     "way w1 a B 1 1", "way w1 A a 1 1", "way a a a 1 x"):
            self.wrong(full + line + "\n", 33, 1)
        self.wrong(places(16) + "room p1 p1\n", 17, 1)
        self.wrong(places(16) + "room P1\n", 17, 1)

    def test_name_before_place_count_and_self(self):
        full = TWO + ways(30)
        self.wrong(TWO + "way a c b 1 1\n", 3, 2)
        self.wrong(TWO + "way a a a 1 1\n", 3, 2)
        self.wrong(full + "way w1 a b 1 1\n", 33, 2)
        self.wrong(full + "way w1 c c 1 1\n", 33, 2)
        self.wrong(places(16) + "room p1\n", 17, 2)
        self.wrong(places(16) + "fire p16\n", 17, 2)

    def test_place_before_count_and_self(self):
        full = TWO + ways(30)
        self.wrong(full + "way more c b 1 1\n", 33, 3)
        self.wrong(full + "way more a c 1 1\n", 33, 3)
        self.wrong(TWO + "way w c c 1 1\n", 3, 3)
        self.wrong(full + "way more c c 1 1\n", 33, 3)

    def test_count_before_self(self):
        self.wrong(TWO + ways(30) + "way more a a 1 1\n", 33, 4)

    def test_the_first_wrong_line_is_told(self):
        self.wrong("room a\nroom a\nroom B\n\n", 2, 2)
        self.wrong("room a\nway w a a 1 1\nroom a\nx\n", 2, 5)
        self.wrong(TWO + "way w a c 1 1\nroom c\nway w a a 1 1\n", 3, 3)

    def test_a_wrong_line_adds_nothing_that_a_later_one_needs(self):
        self.wrong("room a b\nway w a b 1 1\n", 1, 1)


class UnendedTexts(BuildTest):
    def test_last_line_is_told(self):
        self.wrong("room a", 1, 1)
        self.wrong("x", 1, 1)
        self.wrong(" ", 1, 1)
        self.wrong("room a\nroom b", 2, 1)
        self.wrong("room a\nroom a", 2, 1)
        self.wrong(TWO + "way w a a 1 1", 3, 1)
        self.wrong("\n\n\nr", 4, 1)

    def test_before_an_earlier_wrong_line(self):
        self.wrong("room a\nroom a\nroom b", 3, 1)
        self.wrong("\nroom a", 2, 1)
        self.wrong("room A\nroom b\nroom c\nway", 4, 1)

    def test_other_last_bytes(self):
        for byte in range(256):
            if byte != 10:
                self.assertEqual(last(build(list(b"room a\n") + [byte])), [1, 2, 1], byte)


class WhatBuildChanges(BuildTest):
    def test_a_wrong_text_changes_nothing(self):
        for text in ("x\n", "room a", "room a\nroom a\n", "room a\nway w a a 1 1\n", "way w a b 1 1\n", places(17)):
            given = run(build(HOUSE), close(1), close(3), stick(3), stick(2), build(text), PRINTED, NOW)
            self.assertEqual(given[5][0], 1)
            self.assertEqual(given[6], bytes_of(HOUSE))
            self.assertEqual(given[7], [0, 2, 1, 3, 2, 2, 3])

    def test_a_wrong_text_first_leaves_no_house(self):
        self.assertEqual(run(build("room a\nx\n"), PRINTED, NOW), [[1, 2, 1], [0], [0, 0, 0]])

    def test_a_right_text_leaves_nothing_closed_and_nothing_stuck(self):
        given = run(build(HOUSE), close(1), close(3), stick(3), stick(2), build(HOUSE), NOW, close(3), NOW)
        self.assertEqual(given[5:], [[0, 6, 5, 2, 2], [0, 0, 0], [0], [0, 1, 3, 0]])

    def test_a_right_text_takes_the_place_of_the_house(self):
        given = run(build(HOUSE), build("stair kitchen\n"), PRINTED, build(""), PRINTED)
        self.assertEqual(given[1:], [[0, 1, 0, 0, 1], bytes_of("stair kitchen\n"), [0, 0, 0, 0, 0], [0]])


if __name__ == "__main__":
    unittest.main()

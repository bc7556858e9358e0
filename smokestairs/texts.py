"""The text of a house: read line by line, and printed."""

from smokestairs.building import House, Way

LINE_END = 10
BLANK = 32
SMALL_A = 97
DIGIT_0 = 48
LETTERS = "abcdefghijklmnopqrstuvwxyz"
DIGITS = "0123456789"
# Stands for every byte that no right text holds within a line.
OTHER = "?"

KINDS = ("room", "fire", "stair")
LONGEST_NAME = 12
LONGEST_NUMBER = 7
GREATEST_PRICE = 1000000
GREATEST_TIME = 1000
MOST_PLACES = 16
MOST_WAYS = 30

RIGHT = 0
WRONG_FORM = 1
NAME_TAKEN = 2
NO_SUCH_PLACE = 3
TOO_MANY = 4
SAME_PLACE = 5


# Only one is told of a text, so that reading ends where it is raised.
class WrongLine(ValueError):
    def __init__(self, line, why):
        ValueError.__init__(self, "wrong line")
        self.line = line
        self.why = why


def read_house(text):
    # An unended last line comes before all others, so it is looked for before any line is read.
    if text and text[-1] != LINE_END:
        raise WrongLine(text.count(LINE_END) + 1, WRONG_FORM)
    house = House()
    for number, line in enumerate(lines_of(text), start=1):
        words = line.split(" ")
        why = line_fault(house, words)
        if why != RIGHT:
            raise WrongLine(number, why)
        add_right_line(house, words)
    return house


def lines_of(text):
    lines = []
    signs = []
    for byte in text:
        if byte == LINE_END:
            lines.append("".join(signs))
            signs = []
        else:
            signs.append(sign_of(byte))
    return lines


def sign_of(byte):
    if byte == BLANK:
        return " "
    if SMALL_A <= byte < SMALL_A + len(LETTERS):
        return LETTERS[byte - SMALL_A]
    if DIGIT_0 <= byte < DIGIT_0 + len(DIGITS):
        return DIGITS[byte - DIGIT_0]
    return OTHER


def line_fault(house, words):
    if words[0] in KINDS:
        return place_fault(house, words)
    if words[0] == "way":
        return way_fault(house, words)
    return WRONG_FORM


def place_fault(house, words):
    if len(words) != 2 or not is_name(words[1]):
        return WRONG_FORM
    if house.is_taken(words[1]):
        return NAME_TAKEN
    if len(house.places) == MOST_PLACES:
        return TOO_MANY
    return RIGHT


def way_fault(house, words):
    if not is_way_form(words):
        return WRONG_FORM
    if house.is_taken(words[1]):
        return NAME_TAKEN
    first = house.place_number(words[2])
    second = house.place_number(words[3])
    if first == 0 or second == 0:
        return NO_SUCH_PLACE
    if len(house.ways) == MOST_WAYS:
        return TOO_MANY
    if first == second:
        return SAME_PLACE
    return RIGHT


def is_way_form(words):
    if len(words) != 6:
        return False
    if not all([is_name(word) for word in words[1:4]]):
        return False
    return is_number(words[4], GREATEST_PRICE) and is_number(words[5], GREATEST_TIME)


def is_name(word):
    if not 1 <= len(word) <= LONGEST_NAME:
        return False
    return word[0] in LETTERS and all([sign in LETTERS or sign in DIGITS for sign in word])


def is_number(word, greatest):
    if not 1 <= len(word) <= LONGEST_NUMBER:
        return False
    if not all([sign in DIGITS for sign in word]):
        return False
    if word[0] == "0" and len(word) > 1:
        return False
    return int(word) <= greatest


def add_right_line(house, words):
    if words[0] in KINDS:
        house.add_place(words[1], words[0])
        return
    first = house.place_number(words[2])
    second = house.place_number(words[3])
    house.add_way(Way(words[1], first, second, int(words[4]), int(words[5])))


def print_house(house):
    lines = [joined_line([place.kind, place.name]) for place in house.places]
    lines.extend([way_line(house, way) for way in house.ways])
    return [ord(sign) for sign in "".join(lines)]


def way_line(house, way):
    first = house.place(way.first).name
    second = house.place(way.second).name
    return joined_line(["way", way.name, first, second, str(way.price), str(way.time)])


def joined_line(words):
    return " ".join(words) + "\n"

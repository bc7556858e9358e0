"""Calls written as lists, and answers parted into one list a call."""

from smokestairs.house import answers

PRINTED = [1]
FREE = [5]
NOW = [6]

# Two fires, two stairs; ways of price 0, twice between the same places, and a place with no way.
HOUSE = (
    "fire kitchen\n"
    "room hall\n"
    "stair north\n"
    "stair south\n"
    "fire cellar\n"
    "room attic\n"
    "way door kitchen hall 5 1\n"
    "way gap hall kitchen 0 2\n"
    "way gate hall north 7 0\n"
    "way hatch south hall 1000000 1000\n"
    "way flap cellar south 1 3\n"
)


def build(text):
    """The call; the text may be a str of signs 0 to 255, or a list of bytes."""
    numbers = list(text) if isinstance(text, list) else list(text.encode("latin-1"))
    return [0, len(numbers)] + numbers


def close(way):
    return [2, way]


def reopen(way):
    return [3, way]


def stick(way):
    return [4, way]


def smoke(place):
    return [7, place]


def part(given):
    """The answers of one list, each by itself."""
    parts = []
    at = 0
    while at < len(given):
        end = at + 1 + given[at]
        assert end <= len(given), "an answer is cut off"
        parts.append(given[at + 1:end])
        at = end
    return parts


def run(*calls):
    """The answers of these calls, made one behind another on one new object."""
    parts = part(answers(sum(calls, [])))
    assert len(parts) == len(calls), "not one answer a call"
    return parts


def last(*calls):
    return run(*calls)[-1]


def bytes_of(text):
    return [0] + list(text.encode("latin-1"))

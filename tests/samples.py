"""Ways for the tests, and a slow second reckoning to hold the program against."""

from fractions import Fraction
from itertools import product

WORDS = ("plus", "less", "times", "share")


def ways_with(many, numbers):
    """Every way of so many numbers out of these."""
    if many == 1:
        return list(numbers)
    ways = []
    for left in range(1, many):
        firsts = ways_with(left, numbers)
        seconds = ways_with(many - left, numbers)
        ways += [tuple(parts) for parts in product(WORDS, firsts, seconds)]
    return ways


def plain_worth(way):
    """("worth", number) or ("no way", word)."""
    if isinstance(way, int):
        return ("worth", way)
    word, first, second = way
    one = plain_worth(first)
    if one[0] == "no way":
        return one
    other = plain_worth(second)
    if other[0] == "no way":
        return other
    worth = {
        "plus": Fraction(one[1] + other[1]),
        "less": Fraction(one[1] - other[1]),
        "times": Fraction(one[1] * other[1]),
        "share": Fraction(one[1], other[1]),
    }[word]
    if worth < 1 or worth.denominator != 1:
        return ("no way", word)
    return ("worth", int(worth))


def leaning(many, word, to_first):
    """A way of so many ones, nested as deep as can be, to one side."""
    way = 1
    for _ in range(many - 1):
        way = (word, way, 1) if to_first else (word, 1, way)
    return way

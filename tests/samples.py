"""Ways for the tests, and a slow second reckoning to hold the program against."""

from fractions import Fraction
from functools import cmp_to_key
from itertools import combinations, product
from math import prod

WORDS = ("plus", "less", "times", "share")


def ways_with(many, numbers):
    """Every way of so many numbers out of these."""
    if many == 1:
        return list(numbers)
    ways = []
    for left in range(1, many):
        firsts = ways_with(left, numbers)
        seconds = ways_with(many - left, numbers)
        ways += [tuple(parts) for parts in product(WORDS, firsts, seconds)]
    return ways


def plain_worth(way):
    """("worth", number) or ("no way", word)."""
    if isinstance(way, int):
        return ("worth", way)
    word, first, second = way
    one = plain_worth(first)
    if one[0] == "no way":
        return one
    other = plain_worth(second)
    if other[0] == "no way":
        return other
    worth = {
        "plus": Fraction(one[1] + other[1]),
        "less": Fraction(one[1] - other[1]),
        "times": Fraction(one[1] * other[1]),
        "share": Fraction(one[1], other[1]),
    }[word]
    if worth < 1 or worth.denominator != 1:
        return ("no way", word)
    return ("worth", int(worth))


def leaning(many, word, to_first):
    """A way of so many ones, nested as deep as can be, to one side."""
    way = 1
    for _ in range(many - 1):
        way = (word, way, 1) if to_first else (word, 1, way)
    return way


def ways_of_all(numbers):
    """Every way that uses each of these numbers just once."""
    if len(numbers) == 1:
        return [numbers[0]]
    ways = []
    for truths in product((True, False), repeat=len(numbers)):
        one = [number for number, truth in zip(numbers, truths) if truth]
        rest = [number for number, truth in zip(numbers, truths) if not truth]
        if one and rest:
            ways += [tuple(parts) for parts in product(WORDS, ways_of_all(one), ways_of_all(rest))]
    return ways


def rows_within(numbers):
    """Every row of at least one of these numbers, by places; alike rows once."""
    return sorted({row for many in range(1, len(numbers) + 1) for row in combinations(numbers, many)})


def compared(one, other):
    """Below 0, 0 or above 0: the document's order of two forms, step by step."""
    ranks = [0 if isinstance(form, int) else {"sum": 1, "product": 2}[form[0]] for form in (one, other)]
    if ranks[0] != ranks[1]:
        return ranks[0] - ranks[1]
    if ranks[0] == 0:
        return one - other
    return rows_compared(one[1], other[1]) or rows_compared(one[2], other[2])


def rows_compared(ones, others):
    for one, other in zip(ones, others):
        if compared(one, other) != 0:
            return compared(one, other)
    return len(ones) - len(others)


def put_in_order(forms):
    return tuple(sorted(forms, key=cmp_to_key(compared)))


def plain_form(way):
    """A way's form, by signs: which parts of a sum or a product count against the others."""
    if isinstance(way, int):
        return way
    words = ("plus", "less") if way[0] in ("plus", "less") else ("times", "share")
    parts = parts_under(way, words, 1)
    more = put_in_order([plain_form(part) for part, sign in parts if sign == 1])
    off = put_in_order([plain_form(part) for part, sign in parts if sign == -1])
    return ("sum" if words[0] == "plus" else "product", more, off)


def parts_under(way, words, sign):
    if isinstance(way, int) or way[0] not in words:
        return [(way, sign)]
    turned = -sign if way[0] == words[1] else sign
    return parts_under(way[1], words, sign) + parts_under(way[2], words, turned)


def partitions(things):
    """Every manner of laying things into blocks."""
    if not things:
        return [[]]
    laid = []
    for blocks in partitions(things[1:]):
        laid.append([[things[0]]] + blocks)
        for at in range(len(blocks)):
            laid.append(blocks[:at] + [[things[0]] + blocks[at]] + blocks[at + 1:])
    return laid


def plain_let(numbers, but=None):
    """Every let form of just these numbers, under it its worth; none of the kind that is told behind.

    Built from the document's words on let forms, not from ways.
    """
    numbers = list(numbers)
    if len(numbers) == 1:
        return {numbers[0]: numbers[0]}
    told = {}
    for kind in ("sum", "product"):
        if kind == but:
            continue
        for blocks in partitions(numbers):
            if len(blocks) >= 2:
                for parts in product(*[plain_let(block, kind).items() for block in blocks]):
                    told.update(signed(kind, parts))
    return told


def signed(kind, parts):
    told = {}
    for truths in product((True, False), repeat=len(parts)):
        more = [part for part, truth in zip(parts, truths) if truth]
        off = [part for part, truth in zip(parts, truths) if not truth]
        if not more:
            continue
        if kind == "sum":
            worth = Fraction(sum(w for _, w in more) - sum(w for _, w in off))
        else:
            worth = Fraction(prod(w for _, w in more), prod(w for _, w in off))
        if worth >= 1 and worth.denominator == 1:
            form = (kind, put_in_order([f for f, _ in more]), put_in_order([f for f, _ in off]))
            told[form] = int(worth)
    return told


def plain_all(numbers):
    """Every let form that uses each of these numbers at most once, under it its worth."""
    told = {}
    for row in rows_within(numbers):
        told.update(plain_let(row))
    return told


def many_in(form):
    """How many numbers stand in a form."""
    if isinstance(form, int):
        return 1
    return sum(many_in(part) for part in form[1] + form[2])

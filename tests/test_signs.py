"""[15], [16], [17]: signs between the numbers of a row; and [2] of these."""

import random
import time
import unittest
from functools import cache
from itertools import product
from math import comb

from ledtowish.errors import NoAsk, NoText, NoWay, WishError
from ledtowish.signs import figures_all, sides_at, sides_many, sides_met, signs_all, signs_at, signs_many

SIGN_ROWS = ((1,), (99,), (5, 3), (3, 5), (1, 1), (2, 3, 4), (1, 2, 3, 4), (9, 9, 9), (99, 1, 99), (2, 2, 2, 2, 2),
             (7, 1, 4, 1, 9, 2), (1, 2, 3, 4, 5, 6, 7), (99, 98, 97, 96))
SIDE_ROWS = ((1,), (99,), (5, 3), (1, 1), (2, 3, 4), (1, 2, 3, 4), (9, 9, 9), (5, 5, 99, 5), (1, 2, 3, 4, 5, 6, 7, 8),
             (99, 98, 97, 96, 1), (1,) * 10, (3, 7, 3, 7, 7, 3, 3, 7), (4, 9, 2, 7, 7, 1, 8, 3, 3, 5))
FIGURE_ROWS = ((1,), (9,), (1, 2), (2, 1), (9, 9), (1, 2, 3), (5, 5, 5, 5), (9, 1, 8, 2, 7), (1, 1, 1, 1, 1, 1))
FAR = (10 ** 19, -10 ** 19, 10 ** 20 - 1, 1 - 10 ** 20, 12345678901234567890, -98765432109876543210)
NO_PLACES = (-1, -2, -10, -10 ** 30)


@cache
def plain_ways(row, signs):
    """Under each worth its ways, as Python itself reckons the written row."""
    told = {}
    for put in product(signs, repeat=len(row) - 1):
        text = str(row[0]) + "".join(sign + str(number) for sign, number in zip(put, row[1:]))
        told.setdefault(eval(text), []).append(put)
    return told


def beside(worths):
    return sorted({worth + step for worth in worths for step in (-1, 0, 1)} | {0, -1, 1} | set(FAR))


class Refusing(unittest.TestCase):
    def refused(self, at, row, wish, place):
        with self.assertRaises(NoWay) as caught:
            at(row, wish, place)
        self.assertEqual(caught.exception.word, "plus")
        self.assertIsInstance(caught.exception, WishError)
        self.assertNotIsInstance(caught.exception, (NoAsk, NoText))

    def no_places(self, at, row, wish, many):
        for place in NO_PLACES + (many, many + 1, -many, -many - 1, 2 ** 64, 10 ** 19, 10 ** 19 + 1, 10 ** 40):
            if not 0 <= place < many:
                self.refused(at, row, wish, place)


class Signs(Refusing):
    def test_told(self):
        self.assertEqual(signs_all((2, 3, 4), 14), [("+", "*")])
        self.assertEqual(signs_all((2, 3, 4), 20), [])
        self.assertEqual(signs_all((2, 3, 4), -10), [("-", "*")])
        self.assertEqual(signs_all((2, 2), 4), [("+",), ("*",)])
        self.assertEqual(signs_all((2, 2), 0), [("-",)])
        self.assertEqual(signs_all((9, 5, 3), 1), [("-", "-")])
        self.assertEqual(signs_all((1, 1, 1), 1), [("+", "-"), ("-", "+"), ("*", "*")])
        self.assertEqual(signs_all((2, 1, 1), 2), [("+", "-"), ("-", "+"), ("*", "*")])
        self.assertEqual(signs_many((1, 1, 1), 1), 3)
        self.assertEqual(signs_at((1, 1, 1), 1, 0), ("+", "-"))
        self.assertEqual(signs_at((1, 1, 1), 1, 1), ("-", "+"))
        self.assertEqual(signs_at((1, 1, 1), 1, 2), ("*", "*"))

    def test_of_one_number(self):
        for number in (1, 50, 99):
            self.assertEqual(signs_all((number,), number), [()])
            self.assertEqual(signs_many((number,), number), 1)
            self.assertEqual(signs_at((number,), number, 0), ())
            for wish in (number - 1, number + 1, -number, 0) + FAR:
                self.assertEqual(signs_all((number,), wish), [])
                self.assertEqual(signs_many((number,), wish), 0)
                self.refused(signs_at, (number,), wish, 0)

    def test_rows(self):
        for row in SIGN_ROWS:
            ways = plain_ways(row, ("+", "-", "*"))
            wishes = beside(ways)
            for wish in wishes if len(wishes) < 120 else wishes[::11]:
                told = signs_all(row, wish)
                self.assertIs(type(told), list)
                self.assertEqual(told, ways.get(wish, []), (row, wish))
                self.assertEqual(signs_many(row, wish), len(told))

    def test_random_rows(self):
        chance = random.Random(15)
        for _ in range(60):
            greatest = chance.choice((3, 9, 99))
            row = tuple(chance.randint(1, greatest) for _ in range(chance.randint(1, 6)))
            ways = plain_ways(row, ("+", "-", "*"))
            for wish in chance.sample(sorted(ways), min(4, len(ways))) + [chance.randint(-9, 99)]:
                self.assertEqual(signs_all(row, wish), ways.get(wish, []), (row, wish))

    def test_rows_of_eight_and_nine(self):
        for row in ((1, 2, 3, 4, 5, 6, 7, 8, 9), (9,) * 9, (99,) * 9, (3, 1, 4, 1, 5, 9, 2, 6)):
            ways = plain_ways(row, ("+", "-", "*"))
            often = max(ways, key=lambda worth: len(ways[worth]))
            for wish in (max(ways), min(ways), often, 0, -1, 100) + FAR:
                self.assertEqual(signs_all(row, wish), ways.get(wish, []), (row, wish))
                self.assertEqual(signs_many(row, wish), len(ways.get(wish, [])))

    def test_all_ways_stand_under_some_wish(self):
        for row in SIGN_ROWS:
            worths = plain_ways(row, ("+", "-", "*"))
            if len(worths) < 200:
                self.assertEqual(sum(signs_many(row, wish) for wish in worths), 3 ** (len(row) - 1))

    def test_each_place(self):
        for row, wish in (((1, 1, 1), 1), ((2, 2), 4), ((1, 2, 3, 4), 4), ((2, 2, 2, 2, 2), 2), ((7, 1, 4, 1, 9, 2), 0),
                          ((1, 1, 1, 1, 1, 1), -1), ((5,), 5)):
            ways = plain_ways(row, ("+", "-", "*"))[wish]
            told = [signs_at(row, wish, place) for place in range(len(ways))]
            self.assertEqual(told, ways)
            self.assertEqual([type(way) for way in told], [tuple] * len(ways))

    def test_places_where_there_is_none(self):
        for row, wish in (((1, 1, 1), 1), ((2, 2), 4), ((5,), 5), ((2, 3, 4), 20), ((5,), 6), ((9,) * 9, 81)):
            self.no_places(signs_at, row, wish, len(plain_ways(row, ("+", "-", "*")).get(wish, [])))
        for wish in FAR:
            for place in (0, 1, -1, 10 ** 19):
                self.refused(signs_at, (99,) * 9, wish, place)


@cache
def laid(row):
    """One great number: each 64 bits of it tell in how many ways some of the row come to their place."""
    whole = 1
    for number in row:
        whole += whole << (64 * number)
    return whole


def counted(row, wish):
    """In how many ways a row's numbers, each with either sign, come to a wish."""
    # Those with a plus come to half of the wish and the whole row together.
    half, odd = divmod(wish + sum(row), 2)
    if odd or abs(wish) > sum(row):
        return 0
    return laid(row) >> (64 * half) & (2 ** 64 - 1)


def plain_many(row, wish):
    return counted(row[1:], wish - row[0])


def place_of(row, wish, signs):
    """How many ways stand ahead of this one."""
    ahead, lacking = 0, wish - row[0]
    for at, sign in enumerate(signs, start=1):
        if sign == "-":
            ahead += counted(row[at + 1:], lacking - row[at])
        lacking -= row[at] if sign == "+" else -row[at]
    return ahead


def worth_with(row, signs):
    return row[0] + sum(number if sign == "+" else -number for sign, number in zip(signs, row[1:]))


class Sides(Refusing):
    def test_told(self):
        self.assertEqual(sides_many((1, 1, 1), 1), 2)
        self.assertEqual(sides_at((1, 1, 1), 1, 0), ("+", "-"))
        self.assertEqual(sides_at((1, 1, 1), 1, 1), ("-", "+"))
        self.assertEqual(sides_met((1, 1, 1)), (-1, 1, 3))
        self.assertEqual(sides_met((3, 5)), (-2, 8))
        self.assertEqual(sides_met((5, 3)), (2, 8))
        self.assertEqual(sides_many((3, 5), 2), 0)
        self.assertEqual(sides_many((3, 5), -2), 1)

    def test_of_one_number(self):
        for number in (1, 9, 99):
            self.assertEqual(sides_met((number,)), (number,))
            self.assertEqual(sides_many((number,), number), 1)
            self.assertEqual(sides_at((number,), number, 0), ())
            for wish in (-number, 0, number + 1, number - 1) + FAR:
                self.assertEqual(sides_many((number,), wish), 0)
                self.refused(sides_at, (number,), wish, 0)

    def test_short_rows(self):
        for row in SIDE_ROWS:
            ways = plain_ways(row, ("+", "-"))
            self.assertEqual(sides_met(row), tuple(sorted(ways)))
            for wish in beside(ways):
                self.assertEqual(sides_many(row, wish), len(ways.get(wish, [])), (row, wish))
                for place, way in list(enumerate(ways.get(wish, [])))[:20]:
                    self.assertEqual(sides_at(row, wish, place), way)

    def test_each_place(self):
        for row in ((1,) * 8, (1, 2, 3, 4, 5, 6, 7, 8), (3, 7, 3, 7, 7, 3, 3, 7)):
            for wish, ways in plain_ways(row, ("+", "-")).items():
                self.assertEqual([sides_at(row, wish, place) for place in range(len(ways))], ways)

    def test_they_are_the_ways_of_signs_without_times(self):
        for row in SIGN_ROWS[:9]:
            for wish in sides_met(row):
                ways = [way for way in signs_all(row, wish) if "*" not in way]
                self.assertEqual([sides_at(row, wish, place) for place in range(sides_many(row, wish))], ways)

    def test_random_rows(self):
        chance = random.Random(16)
        for _ in range(60):
            row = tuple(chance.randint(1, chance.choice((3, 9, 99))) for _ in range(chance.randint(1, 9)))
            ways = plain_ways(row, ("+", "-"))
            self.assertEqual(sides_met(row), tuple(sorted(ways)))
            wish = chance.choice(sorted(ways))
            self.assertEqual([sides_at(row, wish, place) for place in range(sides_many(row, wish))], ways[wish])

    def test_rows_all_alike(self):
        for number in (1, 9, 99):
            for many in (39, 40):
                row = (number,) * many
                met = sides_met(row)
                self.assertEqual(met, tuple(range(-number * (many - 2), number * many + 1, 2 * number)))
                for wish in met:
                    off = (number * many - wish) // (2 * number)
                    self.assertEqual(sides_many(row, wish), comb(many - 1, off))
                    self.assertEqual(sides_at(row, wish, 0), ("+",) * (many - 1 - off) + ("-",) * off)
                    last = comb(many - 1, off) - 1
                    self.assertEqual(sides_at(row, wish, last), ("-",) * off + ("+",) * (many - 1 - off))

    def long_row(self, row):
        begun = time.perf_counter()
        met = sides_met(row)
        some = (met[0], met[1], met[len(met) // 2], met[len(met) // 3], met[-1])
        many = [sides_many(row, wish) for wish in some]
        places = [sorted({0, one // 2, one // 3, max(one - 2, 0), one - 1}) for one in many]
        told = [[sides_at(row, wish, place) for place in row_of] for wish, row_of in zip(some, places)]
        self.assertLess(time.perf_counter() - begun, 20)
        self.assertEqual(list(met), sorted(set(met)))
        self.assertEqual((met[0], met[-1]), (2 * row[0] - sum(row), sum(row)))
        self.assertEqual(many, [plain_many(row, wish) for wish in some])
        for wish, row_of, ways in zip(some, places, told):
            for place, way in zip(row_of, ways):
                self.assertIs(type(way), tuple)
                self.assertEqual((len(way), set(way) <= {"+", "-"}), (len(row) - 1, True))
                self.assertEqual(worth_with(row, way), wish)
                self.assertEqual(place_of(row, wish, way), place, (row, wish))
        for wish, one in zip(some, many):
            self.no_places(sides_at, row, wish, one)
        for wish in {met[0] - 1, met[-1] + 1, met[-1] - 1, *FAR} - set(met):
            self.assertEqual(sides_many(row, wish), 0)
            for place in (0, 1, -1, 10 ** 19):
                self.refused(sides_at, row, wish, place)

    def test_long_rows(self):
        self.long_row(tuple(1 + at % 9 for at in range(40)))
        self.long_row((9,) * 39 + (1,))
        self.long_row((98, 99) * 20)
        self.long_row((1,) * 20 + (99,) * 20)
        self.long_row((97, 64) * 13 + (64,) * 14)
        self.long_row((99, 98, 97, 96, 95, 94, 93, 89, 83, 79, 73, 71, 67, 61, 59, 53, 47, 43, 41, 37, 31))
        self.long_row(tuple(range(79, 100)))

    def test_random_long_rows(self):
        chance = random.Random(17)
        for _ in range(6):
            self.long_row(tuple(chance.randint(1, 9) for _ in range(chance.randint(30, 40))))
            self.long_row(tuple(chance.choice((13, 88)) for _ in range(40)))
            self.long_row(tuple(chance.randint(1, 99) for _ in range(21)))

    def test_all_that_is_met_in_a_long_row(self):
        for row in (tuple(1 + at % 9 for at in range(40)), (98, 99) * 20, tuple(range(79, 100))):
            met = sides_met(row)
            self.assertEqual(sum(sides_many(row, wish) for wish in met), 2 ** (len(row) - 1))
            self.assertEqual(met, tuple(wish for wish in range(-sum(row), sum(row) + 1) if plain_many(row, wish)))

    def test_places_where_there_is_none(self):
        for row, wish in (((1, 1, 1), 1), ((5,), 5), ((5,), -5), ((2, 3, 4), 2), ((1, 2, 3, 4), 0), ((1,) * 10, 2)):
            self.no_places(sides_at, row, wish, len(plain_ways(row, ("+", "-")).get(wish, [])))


class Figures(unittest.TestCase):
    def test_told(self):
        self.assertEqual(figures_all((1, 2), 12), [("",)])
        self.assertEqual(figures_all((1, 2), 3), [("+",)])
        self.assertEqual(figures_all((1, 2), -1), [("-",)])
        self.assertEqual(figures_all((1, 2), 2), [])
        self.assertEqual(figures_all((1, 2, 3), 123), [("", "")])
        self.assertEqual(figures_all((1, 2, 3), 24), [("+", "")])
        self.assertEqual(figures_all((1, 2, 3), -22), [("-", "")])
        self.assertEqual(figures_all((1, 1, 1), 12), [("", "+"), ("+", "")])
        self.assertEqual(figures_all((2, 1, 1), 2), [("+", "-"), ("-", "+")])

    def test_of_one_figure(self):
        for figure in range(1, 10):
            self.assertEqual(figures_all((figure,), figure), [()])
            for wish in (0, -figure, figure + 1, 10 * figure) + FAR:
                self.assertEqual(figures_all((figure,), wish), [])

    def test_rows(self):
        for row in FIGURE_ROWS:
            ways = plain_ways(row, ("", "+", "-"))
            wishes = beside(ways)
            for wish in wishes if len(wishes) < 300 else wishes[::5]:
                told = figures_all(row, wish)
                self.assertIs(type(told), list)
                self.assertEqual(told, ways.get(wish, []), (row, wish))
                self.assertEqual([type(way) for way in told], [tuple] * len(told))

    def test_random_rows(self):
        chance = random.Random(18)
        for _ in range(80):
            row = tuple(chance.randint(1, 9) for _ in range(chance.randint(1, 7)))
            ways = plain_ways(row, ("", "+", "-"))
            for wish in chance.sample(sorted(ways), min(4, len(ways))) + [chance.randint(-9, 99)]:
                self.assertEqual(figures_all(row, wish), ways.get(wish, []), (row, wish))

    def test_rows_of_eight(self):
        for row in ((1, 2, 3, 4, 5, 6, 7, 8), (9,) * 8, (1,) * 8, (8, 7, 6, 5, 4, 3, 2, 1)):
            ways = plain_ways(row, ("", "+", "-"))
            often = max(ways, key=lambda worth: len(ways[worth]))
            for wish in (max(ways), min(ways), often, 0, -1, 100) + FAR:
                self.assertEqual(figures_all(row, wish), ways.get(wish, []), (row, wish))


class Keeping(unittest.TestCase):
    def test_told_lists_may_be_emptied(self):
        for asked in (lambda: signs_all((1, 1, 1), 1), lambda: figures_all((1, 1, 1), 12)):
            told = asked()
            kept = list(told)
            self.assertGreater(len(kept), 1)
            told.clear()
            again = asked()
            self.assertEqual(again, kept)
            again.append(("+", "+"))
            self.assertEqual(asked(), kept)
        self.assertEqual((signs_many((1, 1, 1), 1), signs_at((1, 1, 1), 1, 2)), (3, ("*", "*")))

    def test_empty_told_lists_may_be_filled(self):
        signs_all((1,), 2).append(())
        figures_all((1,), 2).append(())
        self.assertEqual((signs_all((1,), 2), figures_all((1,), 2)), ([], []))

    def test_what_is_asked_between_does_not_matter(self):
        row = (4, 9, 2, 7, 7, 1, 8)
        first = (signs_all(row, 4), sides_met(row), sides_many(row, 4), figures_all(row, 4))
        for other in SIGN_ROWS + SIDE_ROWS:
            signs_many(other, 4), sides_met(other), sides_many(other, 4)
        self.assertEqual((signs_all(row, 4), sides_met(row), sides_many(row, 4), figures_all(row, 4)), first)

    def test_somewhat_beyond_the_bounds(self):
        self.assertEqual(signs_all((100, 200), 20000), [("*",)])
        self.assertEqual(signs_all((0, 5), 0), [("*",)])
        self.assertEqual(signs_many((1,) * 10, 10), 1)
        self.assertEqual(signs_at((1,) * 10, 10, 0), ("+",) * 9)
        self.assertEqual(sides_many((1,) * 60, 0), comb(59, 30))
        self.assertEqual(sides_met((100, 250)), (-150, 350))
        self.assertEqual(sides_many((1, 0), 1), 2)
        self.assertEqual(sides_at((1, 0), 1, 1), ("-",))
        self.assertEqual(figures_all((1,) * 9, 111111111), [("",) * 8])
        self.assertEqual(figures_all((1, 0), 10), [("",)])
        self.assertEqual(figures_all((5, 0, 3), 2), [("+", "-"), ("-", ""), ("-", "-")])
        for told in (signs_all((), 7), figures_all((), 7)):
            self.assertEqual(told, [])


if __name__ == "__main__":
    unittest.main()

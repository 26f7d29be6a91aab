"""[12], [13]: the nearest worth, the fewest deeds; and [2], [3] of these."""

import random
import unittest
from functools import cache
from itertools import combinations

from ledtowish.errors import NoAsk, NoText, NoWay, WishError
from ledtowish.every import all_forms
from ledtowish.forms import form_let, way_of
from ledtowish.met import met_at_all, table_of, table_shown
from ledtowish.nearest import by_deeds, fewest, nearest
from ledtowish.ways import deeds_of, worth_of

from samples import many_in, plain_all, plain_worth, put_in_order, ways_of_all

ROWS = ((7,), (1,), (10 ** 6,), (6, 3), (3, 6), (4, 4), (1, 1), (10 ** 6, 10 ** 6), (1, 2, 3), (2, 2, 2), (8, 4, 2),
        (10, 20, 50), (1, 2, 3, 4), (4, 3, 2, 1), (1, 1, 1, 1), (3, 3, 8, 8), (5, 5, 25, 100), (25, 50, 75, 100),
        (10 ** 6, 999999, 2, 1), (720720, 360360, 12, 1), (10 ** 6,) * 4)


@cache
def told_of(numbers):
    return plain_all(numbers)


@cache
def worths_of(numbers):
    return sorted(set(told_of(numbers).values()))


def plain_nearest(numbers, wish):
    worth = min(worths_of(numbers), key=lambda one: (abs(one - wish), one))
    forms = [form for form, come in told_of(numbers).items() if come == worth]
    few = min(many_in(form) for form in forms)
    return (worth, put_in_order([form for form in forms if many_in(form) == few])[0], few - 1)


@cache
def plain_by_deeds(numbers):
    rows = []
    for deeds in range(len(numbers)):
        rows.append(tuple(sorted({worth for form, worth in told_of(numbers).items() if many_in(form) == deeds + 1})))
    return tuple(rows)


def wishes_for(numbers):
    """Met ones, those beside, those in the middle of two, and far ones."""
    worths = worths_of(numbers)
    some = worths if len(worths) < 40 else worths[:8] + worths[8:-8:7] + worths[-8:]
    wishes = {1, 2, 10 ** 6, 10 ** 24, worths[-1] * 2 + 1}
    for worth in some:
        wishes |= {worth - 1, worth, worth + 1}
    for one, other in zip(worths, worths[1:]):
        if len(wishes) < 200:
            wishes |= {(one + other) // 2, (one + other + 1) // 2}
    return sorted(wish for wish in wishes if wish >= 1)


class Nearest(unittest.TestCase):
    def test_told(self):
        self.assertEqual(nearest((6, 3), 9), (9, ("sum", (3, 6), ()), 1))
        self.assertEqual(nearest((6, 3), 6), (6, 6, 0))
        self.assertEqual(nearest((6, 3), 10), (9, ("sum", (3, 6), ()), 1))
        self.assertEqual(nearest((7,), 7), (7, 7, 0))
        self.assertEqual(nearest((7,), 1), (7, 7, 0))
        self.assertEqual(nearest((7,), 10 ** 6), (7, 7, 0))

    def test_of_two_the_lesser(self):
        self.assertEqual(nearest((4, 4), 6)[0], 4)
        self.assertEqual(nearest((4, 4), 12)[0], 8)
        self.assertEqual(nearest((4, 4), 7)[0], 8)
        self.assertEqual(nearest((4, 4), 5)[0], 4)

    def test_a_form_of_the_fewest_deeds(self):
        self.assertEqual(all_forms((6, 3), 3), [3, ("sum", (6,), (3,))])
        self.assertEqual(nearest((6, 3), 3), (3, 3, 0))
        self.assertEqual(nearest((1, 2, 3), 6), (6, ("product", (2, 3), ()), 1))
        self.assertEqual(nearest((1, 2, 3, 4), 24), (24, ("product", (2, 3, 4), ()), 2))

    def test_the_first_of_several_with_as_few_deeds(self):
        forms = [form for form in all_forms((2, 2, 4), 4) if many_in(form) == 2]
        self.assertEqual(forms, [("sum", (2, 2), ()), ("product", (2, 2), ())])
        self.assertEqual(nearest((2, 2), 4), (4, ("sum", (2, 2), ()), 1))
        self.assertEqual(nearest((2, 2, 6), 4), (4, ("sum", (2, 2), ()), 1))
        self.assertEqual(nearest((3, 3, 1, 1), 6), (6, ("sum", (3, 3), ()), 1))

    def test_rows(self):
        for numbers in ROWS:
            for wish in wishes_for(numbers):
                self.assertEqual(nearest(numbers, wish), plain_nearest(numbers, wish), (numbers, wish))

    def test_random_rows(self):
        chance = random.Random(12)
        for _ in range(60):
            greatest = chance.choice((4, 10, 100, 10 ** 6))
            numbers = tuple(chance.randint(1, greatest) for _ in range(chance.randint(1, 4)))
            for wish in (chance.randint(1, greatest), chance.randint(1, greatest ** 2), chance.randint(1, 10 ** 6)):
                self.assertEqual(nearest(numbers, wish), plain_nearest(numbers, wish), (numbers, wish))

    def test_what_is_told_holds(self):
        for numbers in ROWS:
            for wish in wishes_for(numbers)[::3]:
                told = nearest(numbers, wish)
                self.assertEqual((type(told), len(told)), (tuple, 3))
                worth, form, deeds = told
                self.assertIs(form_let(form), True)
                self.assertEqual(worth_of(way_of(form)), worth)
                self.assertEqual(deeds_of(way_of(form)), deeds)
                self.assertEqual(deeds, many_in(form) - 1)
                self.assertIn(form, all_forms(numbers, worth))
                self.assertEqual(deeds, fewest(numbers, worth))

    def test_a_table_shows_that_none_is_nearer(self):
        for numbers in ROWS:
            table = table_of(numbers)
            self.assertIs(table_shown(numbers, table), True)
            for wish in wishes_for(numbers)[::5]:
                far = abs(nearest(numbers, wish)[0] - wish)
                self.assertEqual(min(abs(worth - wish) for row in table.values() for worth in row), far)

    def test_of_no_numbers(self):
        for wish in (1, 7, 10 ** 6, 10 ** 30):
            with self.assertRaises(NoWay) as caught:
                nearest((), wish)
            self.assertEqual(caught.exception.word, "plus")
            self.assertIsInstance(caught.exception, WishError)
            self.assertNotIsInstance(caught.exception, (NoAsk, NoText))

    def test_one_number_more_is_no_farther(self):
        for numbers in ROWS:
            for many in range(1, len(numbers)):
                for wish in wishes_for(numbers)[::4]:
                    fewer, more = nearest(numbers[:many], wish), nearest(numbers[:many + 1], wish)
                    self.assertLessEqual(abs(more[0] - wish), abs(fewer[0] - wish))

    def test_a_told_worth_may_be_the_wish(self):
        worth = nearest((10 ** 6,) * 4, 10 ** 40)[0]
        self.assertEqual(worth, 10 ** 24)
        self.assertEqual(nearest((10 ** 6,) * 4, worth), (worth, ("product", (10 ** 6,) * 4, ()), 3))
        self.assertEqual(fewest((10 ** 6,) * 4, worth), 3)


class Fewest(unittest.TestCase):
    def test_told(self):
        self.assertEqual(fewest((6, 3), 6), 0)
        self.assertEqual(fewest((6, 3), 3), 0)
        self.assertEqual(fewest((6, 3), 9), 1)
        self.assertIsNone(fewest((6, 3), 4))
        self.assertEqual(fewest((1, 2, 3, 4), 24), 2)
        self.assertEqual(fewest((1, 2, 3, 4), 36), 3)
        self.assertIsNone(fewest((1, 2, 3, 4), 37))

    def test_of_no_numbers(self):
        for wish in (1, 5, 10 ** 6):
            self.assertIsNone(fewest((), wish))

    def test_rows(self):
        for numbers in ROWS:
            for wish in wishes_for(numbers):
                few = [many_in(form) - 1 for form, worth in told_of(numbers).items() if worth == wish]
                self.assertEqual(fewest(numbers, wish), min(few, default=None), (numbers, wish))

    def test_none_just_where_nothing_meets_it(self):
        for numbers in ROWS:
            met = met_at_all(numbers)
            for wish in wishes_for(numbers)[::2]:
                self.assertEqual(fewest(numbers, wish) is not None, wish in met)

    def test_one_number_more_needs_no_more_deeds(self):
        for numbers in ROWS:
            for many in range(len(numbers)):
                for wish in met_at_all(numbers[:many])[::3]:
                    self.assertLessEqual(fewest(numbers[:many + 1], wish), fewest(numbers[:many], wish))


class ByDeeds(unittest.TestCase):
    def test_told(self):
        self.assertEqual(by_deeds(()), ())
        self.assertEqual(by_deeds((7,)), ((7,),))
        self.assertEqual(by_deeds((6, 3)), ((3, 6), (2, 3, 9, 18)))
        self.assertEqual(by_deeds((4, 4)), ((4,), (1, 8, 16)))
        self.assertEqual(by_deeds((1, 1, 1)), ((1,), (1, 2), (1, 2, 3)))

    def test_rows(self):
        for numbers in ROWS:
            told = by_deeds(numbers)
            self.assertEqual(told, plain_by_deeds(numbers), numbers)
            self.assertEqual([type(row) for row in (told,) + told], [tuple] * (len(numbers) + 1))

    def test_against_all_ways(self):
        for numbers in ((5,), (6, 3), (1, 2, 4), (3, 3, 9), (2, 3, 7)):
            rows = []
            for many in range(1, len(numbers) + 1):
                worths = [plain_worth(way) for row in combinations(numbers, many) for way in ways_of_all(list(row))]
                rows.append(tuple(sorted({worth for kind, worth in worths if kind == "worth"})))
            self.assertEqual(by_deeds(numbers), tuple(rows))

    def test_together_they_are_all_that_can_be_met(self):
        for numbers in ((),) + ROWS:
            met = {worth for row in by_deeds(numbers) for worth in row}
            self.assertEqual(tuple(sorted(met)), met_at_all(numbers))


class Keeping(unittest.TestCase):
    def test_the_order_of_the_row_does_not_matter(self):
        for wish in (5, 29, 31, 10 ** 6):
            self.assertEqual(nearest((1, 2, 3, 4), wish), nearest((3, 1, 4, 2), wish))
            self.assertEqual(fewest((1, 2, 3, 4), wish), fewest((3, 1, 4, 2), wish))
        self.assertEqual(by_deeds((1, 2, 3, 4)), by_deeds((4, 2, 1, 3)))

    def test_the_same_asked_again(self):
        first = (nearest((3, 3, 8, 8), 23), fewest((3, 3, 8, 8), 24), by_deeds((3, 3, 8, 8)))
        for numbers in ROWS:
            nearest(numbers, 23), fewest(numbers, 24), by_deeds(numbers)
        self.assertEqual((nearest((3, 3, 8, 8), 23), fewest((3, 3, 8, 8), 24), by_deeds((3, 3, 8, 8))), first)

    def test_somewhat_beyond_the_bounds(self):
        self.assertEqual(nearest((6, 3), 0), (2, ("product", (6,), (3,)), 1))
        self.assertEqual(nearest((6, 3), -5)[0], 2)
        self.assertEqual(nearest((10 ** 7, 3), 10 ** 7 + 4)[0], 10 ** 7 + 3)
        form = ("product", (("sum", (1, 1), ()), ("sum", (1, 1, 1), ())), ())
        self.assertEqual(nearest((1, 1, 1, 1, 1), 100), (6, form, 4))
        self.assertEqual(by_deeds((1,) * 5), ((1,), (1, 2), (1, 2, 3), (1, 2, 3, 4), (1, 2, 3, 4, 5, 6)))
        self.assertIsNone(fewest((6, 3), 0))


if __name__ == "__main__":
    unittest.main()

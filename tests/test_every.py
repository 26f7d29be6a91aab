"""[8], [9]: all let forms of told numbers and a wish, and how many; and [2], [3] of these."""

import copy
import random
import unittest
from collections import Counter

from ledtowish.every import all_forms, many_forms
from ledtowish.forms import are_twins, form_let, form_of, way_of
from ledtowish.texts import way_shown
from ledtowish.ways import numbers_of, worth_of

from samples import plain_all, plain_form, plain_worth, put_in_order, rows_within, ways_of_all

ROWS = ((), (7,), (1,), (6, 3), (3, 6), (4, 4), (1, 1), (1, 2, 3), (2, 2, 2), (8, 4, 2), (1, 1, 5), (9, 3, 9),
        (1, 2, 3, 4), (4, 3, 2, 1), (1, 1, 1, 1), (3, 3, 8, 8), (2, 2, 3, 3), (6, 6, 6, 2), (25, 50, 75, 100),
        (10 ** 6, 10 ** 6, 10 ** 6, 10 ** 6), (10 ** 6, 999999, 2, 1), (720720, 360360, 12, 1))


def by_worths(numbers):
    told = {}
    for form, worth in plain_all(numbers).items():
        told.setdefault(worth, []).append(form)
    return {worth: list(put_in_order(forms)) for worth, forms in told.items()}


class AllForms(unittest.TestCase):
    def test_told(self):
        self.assertEqual(all_forms((6, 3), 9), [("sum", (3, 6), ())])
        self.assertEqual(all_forms((6, 3), 3), [3, ("sum", (6,), (3,))])
        self.assertEqual(all_forms((6, 3), 2), [("product", (6,), (3,))])
        self.assertEqual(all_forms((1, 2, 3), 6), [
            ("sum", (1, 2, 3), ()),
            ("product", (1, 2, 3), ()),
            ("product", (2, 3), ()),
            ("product", (2, 3), (1,))])
        self.assertEqual(all_forms((1, 2, 3), 9), [("product", (3, ("sum", (1, 2), ())), ())])

    def test_of_none(self):
        for wish in (1, 2, 10 ** 6, 10 ** 24):
            self.assertEqual(all_forms((), wish), [])
            self.assertEqual(many_forms((), wish), 0)

    def test_of_one(self):
        for number in (1, 5, 10 ** 6):
            self.assertEqual(all_forms((number,), number), [number])
            self.assertEqual(many_forms((number,), number), 1)
            self.assertEqual(all_forms((number,), number + 1), [])
            self.assertEqual(many_forms((number,), number + 1), 0)

    def test_numbers_alike_make_no_form_twice(self):
        self.assertEqual(all_forms((4, 4), 4), [4])
        self.assertEqual(all_forms((4, 4), 8), [("sum", (4, 4), ())])
        self.assertEqual(all_forms((4, 4), 1), [("product", (4,), (4,))])
        self.assertEqual(all_forms((1, 1), 1), [1, ("product", (1,), (1,)), ("product", (1, 1), ())])

    def test_shares_of_like_worths_either_way_about(self):
        forms = all_forms((1, 3, 4), 1)
        for form in (("product", (4,), (("sum", (1, 3), ()),)), ("product", (("sum", (1, 3), ()),), (4,))):
            self.assertEqual(forms.count(form), 1)

    def test_a_wish_that_nothing_meets(self):
        for numbers, wish in (((6, 3), 4), ((6, 3), 19), ((1, 1, 1, 1), 5), ((2, 4, 6, 8), 10 ** 6),
                              ((1, 2, 3, 4), 37), ((6, 3), 10 ** 30)):
            self.assertEqual(all_forms(numbers, wish), [])
            self.assertEqual(many_forms(numbers, wish), 0)

    def test_all_that_comes_of_these_rows(self):
        for numbers in ROWS:
            told = by_worths(numbers)
            wishes = sorted(told)
            for wish in wishes if len(wishes) < 60 else wishes[::5] + wishes[-3:]:
                self.assertEqual(all_forms(numbers, wish), told[wish], (numbers, wish))
                self.assertEqual(many_forms(numbers, wish), len(told[wish]))
            for wish in range(1, 40):
                self.assertEqual(many_forms(numbers, wish), len(told.get(wish, [])), (numbers, wish))

    def test_random_rows(self):
        chance = random.Random(4)
        for _ in range(60):
            greatest = chance.choice((3, 10, 100, 10 ** 6))
            numbers = tuple(chance.randint(1, greatest) for _ in range(chance.randint(1, 4)))
            told = by_worths(numbers)
            for wish in [chance.randint(1, greatest)] + chance.sample(sorted(told), min(4, len(told))):
                self.assertEqual(all_forms(numbers, wish), told.get(wish, []), (numbers, wish))

    def test_the_order_of_the_row_does_not_matter(self):
        for wish in (1, 6, 24, 36):
            self.assertEqual(all_forms((1, 2, 3, 4), wish), all_forms((3, 1, 4, 2), wish))

    def test_each_number_is_used_at_most_as_often_as_it_stands_there(self):
        for numbers in ROWS:
            for wish in (1, 2, 6, 24):
                for form in all_forms(numbers, wish):
                    self.assertFalse(Counter(numbers_of(way_of(form))) - Counter(numbers), (numbers, form))

    def test_a_wish_greater_than_a_million(self):
        numbers = (10 ** 6, 10 ** 6 - 1, 999983, 10 ** 6)
        for wish in (10 ** 24 // 10 ** 6 * 999983 - 10 ** 12 * 999983, 10 ** 12 + 999983, 2 * 10 ** 6):
            told = by_worths(numbers)
            self.assertIn(wish, told)
            self.assertEqual(all_forms(numbers, wish), told[wish])


class WithinTheRules(unittest.TestCase):
    def test_each_way_with_a_worth_is_a_twin_of_just_one_told(self):
        for numbers in ((5,), (6, 3), (2, 2), (1, 2, 4), (3, 3, 9), (1, 1, 1), (1, 2, 3, 6)):
            told = {}
            for row in rows_within(numbers):
                for way in ways_of_all(row):
                    kind, worth = plain_worth(way)
                    if kind == "no way":
                        continue
                    if worth not in told:
                        told[worth] = all_forms(numbers, worth)
                    form = form_of(way)
                    self.assertIs(form_let(form), True, way)
                    self.assertEqual(told[worth].count(form), 1, way)

    def test_twins_by_the_program_s_own_word(self):
        for row in rows_within((1, 2, 4)):
            for way in ways_of_all(row):
                if plain_worth(way) == ("worth", 2):
                    told = [form for form in all_forms((1, 2, 4), 2) if are_twins(way, way_of(form))]
                    self.assertEqual(len(told), 1, way)

    def test_each_told_form_is_let_and_its_way_meets_the_wish(self):
        for numbers in ROWS:
            for wish in (1, 2, 5, 24, 100, 10 ** 6, 10 ** 12):
                forms = all_forms(numbers, wish)
                for form in forms:
                    self.assertIs(form_let(form), True)
                    self.assertEqual(worth_of(way_of(form)), wish)
                    self.assertEqual(plain_worth(way_of(form)), ("worth", wish))
                    self.assertEqual(plain_form(way_of(form)), form)
                self.assertEqual(len(set(forms)), len(forms))

    def test_ways_without_a_worth_at_some_part_are_none(self):
        self.assertEqual(all_forms((1, 2, 2), 1).count(("product", (2, ("product", (1,), (2,))), ())), 0)
        for wish in (1, 2, 3, 4, 24):
            for form in all_forms((3, 3, 8, 8), wish):
                self.assertEqual(plain_worth(way_of(form)), ("worth", wish))


class Keeping(unittest.TestCase):
    def test_a_told_list_may_be_emptied(self):
        first = all_forms((1, 2, 3, 4), 24)
        kept = copy.deepcopy(first)
        self.assertIs(type(first), list)
        self.assertGreater(len(first), 3)
        first.clear()
        again = all_forms((1, 2, 3, 4), 24)
        self.assertEqual(again, kept)
        again.append(5)
        self.assertEqual(all_forms((1, 2, 3, 4), 24), kept)
        self.assertEqual(many_forms((1, 2, 3, 4), 24), len(kept))

    def test_an_empty_told_list_may_be_filled(self):
        all_forms((), 5).append(1)
        self.assertEqual(all_forms((), 5), [])

    def test_what_is_asked_between_does_not_matter(self):
        first = all_forms((3, 3, 8, 8), 1)
        for numbers in ROWS:
            all_forms(numbers, 1)
        self.assertEqual(all_forms((3, 3, 8, 8), 1), first)

    def test_a_told_worth_may_be_the_wish(self):
        worth = worth_of(("times", ("times", 10 ** 6, 10 ** 6), ("times", 10 ** 6, 10 ** 6)))
        self.assertEqual(all_forms((10 ** 6,) * 4, worth), [("product", (10 ** 6,) * 4, ())])
        self.assertEqual(way_shown(way_of(all_forms((10 ** 6,) * 4, worth)[0])),
                         "((1000000 * 1000000) * 1000000) * 1000000")

    def test_somewhat_beyond_the_bounds(self):
        self.assertEqual(all_forms((2, 3), 0), [])
        self.assertEqual(all_forms((2, 3), -1), [])
        self.assertEqual(all_forms((0, 2), 2), [2])
        self.assertEqual(many_forms((0, 0), 1), 0)
        great = 10 ** 7 + 1
        self.assertEqual(all_forms((great, 2), great + 2), [("sum", (2, great), ())])
        self.assertEqual(many_forms((1, 1, 1, 1, 1), 5), 2)


if __name__ == "__main__":
    unittest.main()

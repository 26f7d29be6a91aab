"""[4]: ways, their worths, their deeds, their numbers; and [2] of these."""

import copy
import unittest

from ledtowish.errors import NoAsk, NoText, NoWay, WishError
from ledtowish.ways import deeds_of, numbers_of, worth_of

from samples import WORDS, leaning, plain_worth, ways_with

EIGHT = ("plus", ("times", ("less", 9, 2), ("share", 8, 4)),
         ("less", ("plus", 3, 10 ** 6), ("times", 5, 7)))


def answer(way):
    try:
        return ("worth", worth_of(way))
    except NoWay as refusal:
        return ("no way", refusal.word)


class Worths(unittest.TestCase):
    def test_of_a_number(self):
        for number in (1, 2, 10 ** 6, 10 ** 30):
            self.assertEqual(worth_of(number), number)

    def test_of_each_word(self):
        self.assertEqual(worth_of(("plus", 6, 3)), 9)
        self.assertEqual(worth_of(("less", 6, 3)), 3)
        self.assertEqual(worth_of(("times", 6, 3)), 18)
        self.assertEqual(worth_of(("share", 6, 3)), 2)

    def test_first_and_second_are_not_swapped(self):
        self.assertEqual(answer(("less", 3, 6)), ("no way", "less"))
        self.assertEqual(answer(("share", 3, 6)), ("no way", "share"))

    def test_less_is_refused_below_one(self):
        self.assertEqual(worth_of(("less", 8, 7)), 1)
        self.assertEqual(answer(("less", 7, 7)), ("no way", "less"))
        self.assertEqual(answer(("less", 7, 8)), ("no way", "less"))
        self.assertEqual(answer(("less", 1, 10 ** 6)), ("no way", "less"))

    def test_share_is_refused_where_it_is_not_whole(self):
        self.assertEqual(worth_of(("share", 7, 7)), 1)
        self.assertEqual(worth_of(("share", 7, 1)), 7)
        self.assertEqual(answer(("share", 7, 2)), ("no way", "share"))
        self.assertEqual(answer(("share", 1, 2)), ("no way", "share"))
        self.assertEqual(answer(("share", 10 ** 6 - 1, 10 ** 6)), ("no way", "share"))

    def test_each_part_needs_a_worth_though_the_whole_would_be_whole(self):
        self.assertEqual(answer(("times", ("share", 1, 2), 2)), ("no way", "share"))
        self.assertEqual(answer(("plus", ("less", 1, 2), 9)), ("no way", "less"))
        self.assertEqual(answer(("times", ("less", 1, 3), ("less", 1, 3))), ("no way", "less"))

    def test_nested(self):
        self.assertEqual(worth_of(EIGHT), 7 * 2 + (3 + 10 ** 6 - 35))

    def test_great_worths_are_exact(self):
        great = ("times", 10 ** 6, ("times", 10 ** 6, ("times", 10 ** 6, 10 ** 6 - 1)))
        self.assertEqual(worth_of(great), 10 ** 24 - 10 ** 18)
        odd = 10 ** 40 + 1
        self.assertEqual(worth_of(("share", odd * 3, 3)), odd)
        self.assertEqual(answer(("share", odd * 3 + 1, 3)), ("no way", "share"))
        self.assertEqual(worth_of(("less", odd, odd - 1)), 1)

    def test_a_worth_is_a_whole_number(self):
        for way in (3, ("share", 6, 3), ("less", 2, 1), ("share", 1, 1)):
            self.assertIs(type(worth_of(way)), int)

    def test_a_worth_may_be_handed_on_as_a_way(self):
        worth = 10 ** 6
        for _ in range(5):
            row = worth
            for _ in range(7):
                row = ("times", row, worth)
            worth = worth_of(row)
        self.assertEqual(worth, 10 ** (6 * 8 ** 5))
        self.assertEqual(worth_of(("share", worth, worth)), 1)
        self.assertEqual(answer(("less", worth, worth)), ("no way", "less"))


class FirstRefusal(unittest.TestCase):
    def test_the_first_way_is_ahead_of_the_second(self):
        self.assertEqual(answer(("plus", ("share", 1, 2), ("less", 1, 2))), ("no way", "share"))
        self.assertEqual(answer(("plus", ("less", 1, 2), ("share", 1, 2))), ("no way", "less"))

    def test_both_are_ahead_of_their_word(self):
        self.assertEqual(answer(("less", ("share", 3, 2), 9)), ("no way", "share"))
        self.assertEqual(answer(("less", 1, ("share", 3, 2))), ("no way", "share"))
        self.assertEqual(answer(("share", ("less", 3, 3), 9)), ("no way", "less"))
        self.assertEqual(answer(("share", 1, ("less", 2, 3))), ("no way", "less"))

    def test_the_first_ways_own_word_is_ahead_of_all_of_the_second(self):
        way = ("plus", ("less", 1, ("plus", 1, 1)), ("times", ("share", 1, 2), 1))
        self.assertEqual(answer(way), ("no way", "less"))

    def test_deep_in_the_first_is_ahead_of_shallow_in_the_second(self):
        way = ("plus", ("plus", 5, ("plus", 4, ("less", 2, 3))), ("share", 3, 2))
        self.assertEqual(answer(way), ("no way", "less"))

    def test_a_way_with_plus_or_times_never_gives_its_own_word(self):
        self.assertEqual(answer(("times", ("plus", 1, ("share", 5, 3)), 2)), ("no way", "share"))

    def test_the_refusal_is_of_its_kind_alone(self):
        with self.assertRaises(NoWay) as taken:
            worth_of(("less", 1, 1))
        self.assertIsInstance(taken.exception, WishError)
        self.assertIsInstance(taken.exception, ValueError)
        self.assertNotIsInstance(taken.exception, (NoText, NoAsk))

    def test_all_small_ways(self):
        for many in (1, 2, 3):
            for way in ways_with(many, (1, 2, 3, 4, 6)):
                self.assertEqual(answer(way), plain_worth(way), way)
        for way in ways_with(4, (2, 3)):
            self.assertEqual(answer(way), plain_worth(way), way)


class DeedsAndNumbers(unittest.TestCase):
    def test_of_one_number(self):
        self.assertEqual(deeds_of(7), 0)
        self.assertEqual(numbers_of(7), (7,))

    def test_of_each_word(self):
        for word in WORDS:
            self.assertEqual(deeds_of((word, 9, 3)), 1)
            self.assertEqual(numbers_of((word, 9, 3)), (9, 3))

    def test_of_eight_numbers(self):
        self.assertEqual(deeds_of(EIGHT), 7)
        self.assertEqual(numbers_of(EIGHT), (9, 2, 8, 4, 3, 10 ** 6, 5, 7))

    def test_of_ways_without_a_worth(self):
        way = ("less", ("share", 2, 7), ("less", 1, ("share", 1, 5)))
        self.assertEqual(deeds_of(way), 4)
        self.assertEqual(numbers_of(way), (2, 7, 1, 1, 5))

    def test_eight_numbers_without_a_worth(self):
        way = ("less", 1, ("share", 2, ("less", 3, ("share", 4, ("less", 5, ("share", 6, ("less", 7, 8)))))))
        self.assertEqual(answer(way), ("no way", "less"))
        self.assertEqual(deeds_of(way), 7)
        self.assertEqual(numbers_of(way), (1, 2, 3, 4, 5, 6, 7, 8))

    def test_by_place_and_not_by_size_and_alike_ones_kept(self):
        self.assertEqual(numbers_of(("plus", ("plus", 5, 1), ("plus", 5, 5))), (5, 1, 5, 5))

    def test_numbers_are_a_tuple(self):
        for way in (7, EIGHT):
            self.assertIs(type(numbers_of(way)), tuple)
            self.assertIs(type(deeds_of(way)), int)


class Keeping(unittest.TestCase):
    def test_what_is_handed_in_stays_and_is_answered_the_same(self):
        for way in (4, EIGHT, ("less", ("share", 1, 2), 3)):
            kept = copy.deepcopy(way)
            told = [(answer(way), deeds_of(way), numbers_of(way)) for _ in range(3)]
            self.assertEqual(way, kept)
            self.assertEqual(told, [told[0]] * 3)

    def test_a_refusal_leaves_nothing_behind(self):
        self.assertEqual(answer(("less", 1, 1)), ("no way", "less"))
        self.assertEqual(worth_of(("plus", 1, 1)), 2)

    def test_ways_beyond_the_bound_are_not_refused(self):
        for to_first in (True, False):
            way = leaning(3000, "plus", to_first)
            self.assertEqual(worth_of(way), 3000)
            self.assertEqual(deeds_of(way), 2999)
            self.assertEqual(numbers_of(way), (1,) * 3000)


if __name__ == "__main__":
    unittest.main()

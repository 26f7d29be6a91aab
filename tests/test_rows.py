"""[14]: rows that meet a wish, and rows with just so many forms; and [2] of these."""

import unittest
from itertools import combinations_with_replacement

from ledtowish.every import all_forms
from ledtowish.rows import rows_that_meet, rows_with

from samples import plain_all

WISHES = (1, 2, 3, 6, 7, 10, 24, 81, 100, 729, 730, 10 ** 6)


def plain_rows(many, greatest):
    return list(combinations_with_replacement(range(1, greatest + 1), many))


def forms_of_rows(many, greatest, wish):
    return [(row, len(all_forms(row, wish))) for row in plain_rows(many, greatest)]


class RowsThatMeet(unittest.TestCase):
    def test_told(self):
        self.assertEqual(rows_that_meet(1, 9, 5), [(5,)])
        self.assertEqual(rows_that_meet(1, 4, 5), [])
        self.assertEqual(rows_that_meet(1, 1, 1), [(1,)])
        self.assertEqual(rows_that_meet(2, 3, 6), [(2, 3), (3, 3)])
        self.assertEqual(rows_that_meet(2, 4, 8), [(2, 4), (4, 4)])
        self.assertEqual(rows_that_meet(3, 1, 3), [(1, 1, 1)])
        self.assertEqual(rows_that_meet(3, 1, 4), [])
        self.assertEqual(rows_that_meet(3, 9, 729), [(9, 9, 9)])
        self.assertEqual(rows_that_meet(3, 9, 730), [])

    def test_each_length_and_greatest(self):
        for many in (1, 2, 3):
            for greatest in range(1, 10):
                for wish in WISHES if greatest in (1, 4, 9) else WISHES[3:7]:
                    rows = [row for row, forms in forms_of_rows(many, greatest, wish) if forms > 0]
                    told = rows_that_meet(many, greatest, wish)
                    self.assertIs(type(told), list)
                    self.assertEqual(told, rows, (many, greatest, wish))
                    self.assertEqual(told, sorted(set(told)))

    def test_against_forms_of_the_test_s_own(self):
        for many, greatest in ((1, 9), (2, 9), (3, 5)):
            told = {row: list(plain_all(row).values()) for row in plain_rows(many, greatest)}
            for wish in (1, 4, 12, 24, 30):
                self.assertEqual(rows_that_meet(many, greatest, wish), [row for row in told if wish in told[row]])
                for forms in range(6):
                    rows = [row for row in told if told[row].count(wish) == forms]
                    self.assertEqual(rows_with(many, greatest, wish, forms), rows, (many, greatest, wish, forms))


class RowsWith(unittest.TestCase):
    def test_told(self):
        self.assertEqual(rows_with(1, 3, 2, 0), [(1,), (3,)])
        self.assertEqual(rows_with(1, 3, 2, 1), [(2,)])
        self.assertEqual(rows_with(1, 3, 2, 2), [])
        self.assertEqual(rows_with(2, 2, 2, 0), [])
        self.assertEqual(rows_with(2, 2, 1, 3), [(1, 1)])

    def test_each_length_and_greatest(self):
        for many in (1, 2, 3):
            for greatest in (1, 2, 5, 9):
                for wish in WISHES[::2]:
                    counted = forms_of_rows(many, greatest, wish)
                    most = max(forms for row, forms in counted)
                    for number in range(most + 2):
                        rows = [row for row, forms in counted if forms == number]
                        told = rows_with(many, greatest, wish, number)
                        self.assertIs(type(told), list)
                        self.assertEqual(told, rows, (many, greatest, wish, number))

    def test_none_has_so_many(self):
        for forms in (60, 10 ** 6, 10 ** 40):
            for many in (1, 2, 3):
                self.assertEqual(rows_with(many, 9, 6, forms), [])

    def test_none_of_a_wish_are_those_that_do_not_meet_it(self):
        for wish in WISHES:
            meet, not_meet = rows_that_meet(3, 9, wish), rows_with(3, 9, wish, 0)
            self.assertEqual(sorted(meet + not_meet), plain_rows(3, 9))


class Keeping(unittest.TestCase):
    def test_told_lists_may_be_emptied(self):
        for asked in (lambda: rows_that_meet(2, 6, 8), lambda: rows_with(2, 6, 8, 1), lambda: rows_with(2, 6, 8, 0)):
            told = asked()
            kept = list(told)
            self.assertGreater(len(kept), 0)
            told.clear()
            again = asked()
            self.assertEqual(again, kept)
            again.append((1, 1))
            self.assertEqual(asked(), kept)

    def test_empty_told_lists_may_be_filled(self):
        rows_that_meet(1, 4, 5).append((5,))
        rows_with(1, 4, 5, 7).append((5,))
        self.assertEqual(rows_that_meet(1, 4, 5), [])
        self.assertEqual(rows_with(1, 4, 5, 7), [])

    def test_somewhat_beyond_the_bounds(self):
        self.assertEqual(rows_that_meet(1, 12, 11), [(11,)])
        self.assertEqual(rows_that_meet(4, 2, 16), [(2, 2, 2, 2)])
        self.assertEqual(rows_that_meet(2, 0, 1), [])
        self.assertEqual(rows_that_meet(0, 9, 1), [])
        self.assertEqual(rows_with(1, 2, 1, -1), [])
        self.assertEqual(rows_with(1, 2, 0, 0), [(1,), (2,)])


if __name__ == "__main__":
    unittest.main()

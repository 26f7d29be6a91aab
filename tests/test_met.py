"""[10], [11]: what can be met, and tables of it; and [2], [3] of these."""

import copy
import random
import unittest
from functools import cache
from itertools import product

from ledtowish.every import all_forms, many_forms
from ledtowish.met import met_at_all, met_by, table_of, table_shown

from samples import plain_worth, ways_of_all

ROWS = ((1,), (7,), (10 ** 6,), (6, 3), (3, 6), (4, 4), (1, 1), (1, 5), (1, 2, 3), (3, 3, 9), (1, 1, 1), (8, 1, 8),
        (10 ** 6, 10 ** 6 - 1, 2))
GREAT_ROWS = ((1, 2, 3, 4), (1, 1, 1, 1), (3, 3, 8, 8), (10 ** 6, 10 ** 6, 999999, 1))


def choices(many):
    return [choice for choice in product((False, True), repeat=many) if any(choice)]


@cache
def plain_row(numbers, choice):
    chosen = [number for number, truth in zip(numbers, choice) if truth]
    if not chosen:
        return ()
    worths = [plain_worth(way) for way in ways_of_all(chosen)]
    return tuple(sorted({worth for kind, worth in worths if kind == "worth"}))


def plain_table(numbers):
    return {choice: plain_row(numbers, choice) for choice in choices(len(numbers))}


class MetBy(unittest.TestCase):
    def test_told(self):
        self.assertEqual(met_by((6, 3), (True, False)), (6,))
        self.assertEqual(met_by((6, 3), (False, True)), (3,))
        self.assertEqual(met_by((6, 3), (True, True)), (2, 3, 9, 18))
        self.assertEqual(met_by((3, 6), (True, True)), (2, 3, 9, 18))
        self.assertEqual(met_by((5, 7), (True, True)), (2, 12, 35))
        self.assertEqual(met_by((4, 4), (True, True)), (1, 8, 16))
        self.assertEqual(met_by((1, 1), (True, True)), (1, 2))
        self.assertEqual(met_by((1, 6, 1, 3), (False, True, False, True)), (2, 3, 9, 18))

    def test_a_choice_of_none(self):
        for numbers in ((),) + ROWS + GREAT_ROWS:
            self.assertEqual(met_by(numbers, (False,) * len(numbers)), ())

    def test_of_one_number(self):
        for number in (1, 5, 10 ** 6):
            self.assertEqual(met_by((number,), (True,)), (number,))

    def test_each_choice(self):
        for numbers in ROWS + GREAT_ROWS:
            for choice in choices(len(numbers)):
                self.assertEqual(met_by(numbers, choice), plain_row(numbers, choice), (numbers, choice))

    def test_random_rows(self):
        chance = random.Random(5)
        for _ in range(150):
            greatest = chance.choice((3, 10, 100, 10 ** 6))
            numbers = tuple(chance.randint(1, greatest) for _ in range(chance.randint(1, 3)))
            choice = tuple(chance.random() < 0.8 for _ in numbers)
            self.assertEqual(met_by(numbers, choice), plain_row(numbers, choice), (numbers, choice))

    def test_all_of_the_chosen_are_used(self):
        self.assertNotIn(7, met_by((7, 2), (True, True)))
        self.assertNotIn(100, met_by((100, 3, 7), (True, True, True)))

    def test_great_ones(self):
        self.assertEqual(met_by((10 ** 6,) * 4, (True,) * 4)[-1], 10 ** 24)


class MetAtAll(unittest.TestCase):
    def test_told(self):
        self.assertEqual(met_at_all(()), ())
        self.assertEqual(met_at_all((7,)), (7,))
        self.assertEqual(met_at_all((6, 3)), (2, 3, 6, 9, 18))
        self.assertEqual(met_at_all((4, 4)), (1, 4, 8, 16))
        self.assertEqual(met_at_all((1, 1, 1, 1)), (1, 2, 3, 4))

    def test_all_choices_together(self):
        for numbers in ROWS + GREAT_ROWS:
            worths = {worth for row in plain_table(numbers).values() for worth in row}
            self.assertEqual(met_at_all(numbers), tuple(sorted(worths)), numbers)

    def test_what_is_met_has_a_form_and_nothing_else_has(self):
        for numbers in ((), (6, 3), (1, 2, 3), (2, 2, 3, 3)):
            met = met_at_all(numbers)
            for wish in range(1, 60):
                self.assertEqual(many_forms(numbers, wish) > 0, wish in met, (numbers, wish))
        for wish in met_at_all((10 ** 6, 999999, 3, 2)):
            self.assertNotEqual(all_forms((10 ** 6, 999999, 3, 2), wish), [])


class Tables(unittest.TestCase):
    def test_of_no_numbers(self):
        self.assertEqual(table_of(()), {})
        self.assertIs(table_shown((), {}), True)
        self.assertIs(table_shown((), {(): ()}), False)
        self.assertIs(table_shown((), {(True,): (1,)}), False)
        self.assertIs(table_shown((), {(False,): ()}), False)

    def test_told(self):
        self.assertEqual(table_of((7,)), {(True,): (7,)})
        self.assertEqual(table_of((6, 3)), {(True, False): (6,), (False, True): (3,), (True, True): (2, 3, 9, 18)})

    def test_of_each_row(self):
        for numbers in ROWS + GREAT_ROWS:
            table = table_of(numbers)
            self.assertEqual(table, plain_table(numbers))
            self.assertEqual(len(table), 2 ** len(numbers) - 1)
            for choice, row in table.items():
                self.assertEqual([type(truth) for truth in choice], [bool] * len(numbers))
                self.assertIs(type(row), tuple)
                self.assertEqual(row, met_by(numbers, choice))

    def test_the_right_table_in_any_order(self):
        for numbers in ROWS + GREAT_ROWS:
            pairs = list(plain_table(numbers).items())
            self.assertIs(table_shown(numbers, dict(pairs)), True, numbers)
            self.assertIs(table_shown(numbers, dict(pairs[::-1])), True, numbers)
            self.assertIs(table_shown(numbers, dict(pairs[2:] + pairs[:2])), True, numbers)

    def broken(self, numbers, choice, row):
        table = plain_table(numbers)
        self.assertNotEqual(table.get(choice), row)
        table[choice] = row
        self.assertIs(table_shown(numbers, table), False, (numbers, choice, row))

    def test_a_worth_lacks(self):
        for numbers in ROWS + GREAT_ROWS[:3]:
            for choice, row in plain_table(numbers).items():
                for at in range(len(row)):
                    self.broken(numbers, choice, row[:at] + row[at + 1:])

    def test_a_worth_too_many(self):
        for numbers in ROWS + GREAT_ROWS[:3]:
            for choice, row in plain_table(numbers).items():
                for more in (-1, 0, 1, 2, 5, 11, row[-1] - 1, row[-1] + 1):
                    if more not in row:
                        self.broken(numbers, choice, tuple(sorted(row + (more,))))

    def test_a_worth_other(self):
        for numbers in ROWS:
            for choice, row in plain_table(numbers).items():
                self.broken(numbers, choice, row[:-1] + (row[-1] + 1,))
                self.broken(numbers, choice, (0,) + row[1:])

    def test_a_worth_twice(self):
        for numbers in ROWS + GREAT_ROWS:
            for choice, row in plain_table(numbers).items():
                self.broken(numbers, choice, row[:1] + row)
                self.broken(numbers, choice, row + row[-1:])

    def test_another_order(self):
        for numbers in ROWS + GREAT_ROWS:
            for choice, row in plain_table(numbers).items():
                if len(row) > 1:
                    self.broken(numbers, choice, row[::-1])
                    self.broken(numbers, choice, row[1:] + row[:1])
                    self.broken(numbers, choice, row[:-2] + (row[-1], row[-2]))

    def test_a_choice_lacks(self):
        for numbers in ROWS + GREAT_ROWS:
            for choice in choices(len(numbers)):
                table = plain_table(numbers)
                del table[choice]
                self.assertIs(table_shown(numbers, table), False)
            self.assertIs(table_shown(numbers, {}), False)

    def test_a_choice_too_many(self):
        for numbers in ROWS + GREAT_ROWS:
            many = len(numbers)
            self.broken(numbers, (False,) * many, ())
            self.broken(numbers, (False,) * many, numbers[:1])
            self.broken(numbers, (), ())
            self.broken(numbers, (True,) * (many + 1), met_at_all(numbers))
            self.broken(numbers, (True,) + (False,) * many, numbers[:1])
            self.broken(numbers, (False,) * (many + 1), ())
            if many > 1:
                self.broken(numbers, (True,) * (many - 1), numbers[:1])

    def test_a_choice_of_another_length_in_place_of_one(self):
        table = plain_table((6, 3))
        table[(True,)] = table.pop((True, False))
        self.assertIs(table_shown((6, 3), table), False)

    def test_rows_exchanged(self):
        for numbers in ((6, 3), (1, 2, 3), (1, 2, 3, 4)):
            for one in choices(len(numbers)):
                for other in choices(len(numbers)):
                    table = plain_table(numbers)
                    if table[one] != table[other]:
                        table[one], table[other] = table[other], table[one]
                        self.assertIs(table_shown(numbers, table), False, (one, other))

    def test_other_numbers(self):
        self.assertIs(table_shown((6, 4), plain_table((6, 3))), False)
        self.assertIs(table_shown((3, 6), plain_table((6, 3))), False)
        self.assertIs(table_shown((6,), plain_table((6, 3))), False)
        self.assertIs(table_shown((6, 3, 1), plain_table((6, 3))), False)
        self.assertIs(table_shown((), plain_table((6, 3))), False)
        self.assertIs(table_shown((1, 3, 2, 4), plain_table((1, 2, 3, 4))), False)
        self.assertIs(table_shown((4, 3, 2, 1), plain_table((1, 2, 3, 4))), False)

    def test_a_table_that_is_wrong_all_the_way_up(self):
        """Each row comes of the rows within it, but those are of other numbers."""
        self.assertIs(table_shown((1, 2, 4), plain_table((1, 2, 3))), False)


class Keeping(unittest.TestCase):
    def test_a_told_table_may_be_emptied(self):
        table = table_of((1, 2, 3, 4))
        kept = copy.deepcopy(table)
        table.clear()
        again = table_of((1, 2, 3, 4))
        self.assertEqual(again, kept)
        again[(True,) * 4] = ()
        self.assertEqual(table_of((1, 2, 3, 4)), kept)
        self.assertIs(table_shown((1, 2, 3, 4), kept), True)
        self.assertEqual(met_at_all((1, 2, 3, 4)), tuple(sorted({worth for row in kept.values() for worth in row})))

    def test_an_empty_told_table_may_be_filled(self):
        table_of(())[(True,)] = (1,)
        self.assertEqual(table_of(()), {})

    def test_what_is_handed_in_stays_as_it_was(self):
        right, wrong = plain_table((1, 2, 3)), plain_table((1, 2, 5))
        wrong[(True,)] = (9, 8)
        kept = copy.deepcopy((right, wrong))
        for _ in range(2):
            self.assertIs(table_shown((1, 2, 3), right), True)
            self.assertIs(table_shown((1, 2, 3), wrong), False)
        self.assertEqual((right, wrong), kept)
        self.assertEqual([list(table) for table in (right, wrong)], [list(table) for table in kept])

    def test_a_table_changed_behind_the_call(self):
        table = plain_table((6, 3))
        self.assertIs(table_shown((6, 3), table), True)
        table[(True, True)] = (2, 3)
        self.assertIs(table_shown((6, 3), table), False)
        table[(True, True)] = (2, 3, 9, 18)
        self.assertIs(table_shown((6, 3), table), True)

    def test_the_same_asked_again(self):
        for numbers in GREAT_ROWS:
            self.assertEqual(met_at_all(numbers), met_at_all(numbers))
            self.assertEqual(list(table_of(numbers).items()), list(table_of(numbers).items()))

    def test_somewhat_beyond_the_bounds(self):
        self.assertEqual(met_by((10 ** 9, 3), (True, True)), (10 ** 9 - 3, 10 ** 9 + 3, 3 * 10 ** 9))
        self.assertEqual(met_at_all((0, 2)), (2,))
        self.assertEqual(met_by((0, 2), (True, True)), ())
        self.assertEqual(met_at_all((1,) * 5), (1, 2, 3, 4, 5, 6))
        self.assertIs(table_shown((1, 2, 3, 4, 5), table_of((1, 2, 3, 4, 5))), True)


if __name__ == "__main__":
    unittest.main()

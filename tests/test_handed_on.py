"""[1], [2], [3], [9] over the whole: what one part tells is handed on to another."""

import copy
import random
import unittest
from collections import Counter

from ledtowish.every import all_forms, many_forms
from ledtowish.forms import are_twins, form_let, form_of, way_of
from ledtowish.met import met_at_all, met_by, table_of, table_shown
from ledtowish.nearest import by_deeds, fewest, nearest
from ledtowish.rows import rows_that_meet, rows_with
from ledtowish.signs import figures_all, sides_at, sides_many, sides_met, signs_all, signs_at, signs_many
from ledtowish.texts import read_way, way_shown
from ledtowish.ways import deeds_of, numbers_of, worth_of
from ledtowish.whole import Desk

from samples import plain_worth, rows_within, ways_of_all

ROWS = ((7,), (6, 3), (4, 4), (1, 2, 3), (5, 5, 5), (1, 2, 3, 4), (2, 2, 3, 3), (10 ** 6, 10 ** 6, 999999, 7),
        (10 ** 6,) * 4)


def desk_of(numbers):
    desk = Desk()
    desk.ask("numbers " + " ".join(str(number) for number in numbers))
    return desk


class HandedOn(unittest.TestCase):
    def test_told_worths_as_wishes(self):
        for numbers in ROWS:
            for worth in met_at_all(numbers)[::3] + met_at_all(numbers)[-1:]:
                forms = all_forms(numbers, worth)
                self.assertGreater(len(forms), 0)
                self.assertEqual(many_forms(numbers, worth), len(forms))
                self.assertEqual(nearest(numbers, worth)[0], worth)
                self.assertIn(nearest(numbers, worth)[1], forms)
                self.assertEqual(fewest(numbers, worth), nearest(numbers, worth)[2])
                self.assertIn(worth, by_deeds(numbers)[fewest(numbers, worth)])

    def test_told_forms_as_ways_and_their_texts(self):
        for numbers in ROWS:
            desk = desk_of(numbers)
            for worth in met_at_all(numbers)[::4] + met_at_all(numbers)[-1:]:
                for form in all_forms(numbers, worth):
                    way = way_of(form)
                    text = way_shown(way)
                    self.assertIs(form_let(form), True)
                    self.assertEqual(read_way(text), way)
                    self.assertEqual(form_of(way), form)
                    self.assertEqual((worth_of(way), deeds_of(way)), (worth, len(numbers_of(way)) - 1))
                    self.assertFalse(Counter(numbers_of(way)) - Counter(numbers))
                    self.assertEqual(desk.ask("worth " + text), [str(worth)])
                    self.assertEqual(desk.ask("uses " + text), ["yes"])
                    self.assertEqual(desk.ask(f"twins {text};{text}"), ["yes"])

    def test_the_desk_tells_what_the_parts_tell(self):
        for numbers in ROWS:
            desk = desk_of(numbers)
            self.assertEqual(desk.ask("met"), [" ".join(str(worth) for worth in met_at_all(numbers))])
            for wish in (1, 2, 5, 24, 999999, 10 ** 6):
                self.assertEqual(desk.ask(f"wish {wish}"), [])
                forms = all_forms(numbers, wish)
                self.assertEqual(desk.ask("ways"), [way_shown(way_of(form)) for form in forms])
                self.assertEqual(desk.ask("many"), [str(many_forms(numbers, wish))])
                worth, form, deeds = nearest(numbers, wish)
                self.assertEqual(desk.ask("near"), [f"{worth} {deeds}", way_shown(way_of(form))])

    def test_rows_of_the_desk_are_no_twins(self):
        desk = desk_of((1, 2, 3, 4))
        desk.ask("wish 6")
        texts = desk.ask("ways")
        self.assertGreater(len(texts), 10)
        for at, one in enumerate(texts):
            for other in texts[at + 1:]:
                self.assertEqual(desk.ask(f"twins {one};{other}"), ["no"])

    def test_each_way_that_meets_the_wish_is_a_twin_of_just_one_row(self):
        desk = desk_of((2, 2, 4))
        desk.ask("wish 4")
        told = [read_way(text) for text in desk.ask("ways")]
        for row in rows_within((2, 2, 4)):
            for way in ways_of_all(list(row)):
                if plain_worth(way) == ("worth", 4):
                    self.assertEqual([are_twins(way, other) for other in told].count(True), 1, way)

    def test_rows_that_meet_a_wish_at_the_desk(self):
        rows = rows_that_meet(3, 5, 24)
        self.assertGreater(len(rows), 0)
        for row in rows:
            desk = desk_of(row)
            desk.ask("wish 24")
            self.assertEqual(desk.ask("near")[0].split(" ")[0], "24")
            self.assertIn(row, rows_with(3, 5, 24, int(desk.ask("many")[0])))

    def test_tables_show_what_can_be_met(self):
        for numbers in ROWS:
            table = table_of(numbers)
            self.assertIs(table_shown(numbers, table), True)
            self.assertEqual(tuple(sorted({worth for row in table.values() for worth in row})), met_at_all(numbers))
            for choice, row in table.items():
                self.assertEqual(met_by(numbers, choice), row)
                self.assertLessEqual(set(row), set(by_deeds(numbers)[sum(choice) - 1]))

    def test_signs_told_are_met_by_sides(self):
        for row in ((1, 2, 3, 4, 5), (9, 9, 9, 9), (5,)):
            for wish in sides_met(row):
                for place in range(sides_many(row, wish)):
                    way = sides_at(row, wish, place)
                    self.assertIn(way, signs_all(row, wish))
                    self.assertIn(way, figures_all(row, wish))
                self.assertEqual(signs_at(row, wish, signs_many(row, wish) - 1), signs_all(row, wish)[-1])


ASKED = (
    lambda: worth_of(("less", ("times", 6, 3), 4)),
    lambda: deeds_of(("less", ("times", 6, 3), 4)),
    lambda: numbers_of(("less", ("times", 6, 3), 4)),
    lambda: way_shown(("less", ("times", 6, 3), 4)),
    lambda: read_way("(6 * 3) - 4"),
    lambda: form_of(("less", ("times", 6, 3), 4)),
    lambda: way_of(("sum", (3, 9), (5,))),
    lambda: form_let(("sum", (3, 9), (5,))),
    lambda: are_twins(("plus", 1, 2), ("plus", 2, 1)),
    lambda: all_forms((1, 2, 3, 4), 24),
    lambda: many_forms((1, 2, 3, 4), 24),
    lambda: met_by((1, 2, 3, 4), (True, False, True, True)),
    lambda: met_at_all((1, 2, 3, 4)),
    lambda: table_of((1, 2, 3, 4)),
    lambda: nearest((1, 2, 3, 4), 29),
    lambda: fewest((1, 2, 3, 4), 24),
    lambda: by_deeds((1, 2, 3, 4)),
    lambda: rows_that_meet(2, 9, 12),
    lambda: rows_with(2, 9, 12, 1),
    lambda: rows_with(2, 9, 12, 0),
    lambda: signs_many((1, 2, 3, 4), 4),
    lambda: signs_all((1, 2, 3, 4), 4),
    lambda: signs_at((1, 2, 3, 4), 4, 0),
    lambda: sides_many((1, 2, 3, 4), 4),
    lambda: sides_at((1, 2, 3, 4), 4, 0),
    lambda: sides_met((1, 2, 3, 4)),
    lambda: figures_all((1, 2, 3, 4), 10),
    lambda: desk_of((1, 2, 3, 4)).ask("met"),
)


class Asker(unittest.TestCase):
    def test_told_lists_and_dicts_emptied_and_asked_again(self):
        firsts = [ask() for ask in ASKED]
        kept = copy.deepcopy(firsts)
        for told in firsts:
            if isinstance(told, (list, dict)):
                self.assertGreater(len(told), 0)
                told.clear()
        self.assertEqual([ask() for ask in ASKED], kept)

    def test_in_whatever_order_it_is_asked(self):
        kept = [ask() for ask in ASKED]
        places = list(range(len(ASKED)))
        for seed in range(3):
            random.Random(seed).shuffle(places)
            for place in places:
                self.assertEqual(ASKED[place](), kept[place])

    def test_what_is_told_stays_whatever_is_asked_later(self):
        firsts = [ask() for ask in ASKED]
        kept = copy.deepcopy(firsts)
        for ask in ASKED:
            ask()
        nearest((9, 9, 9, 9), 100), table_of((9, 9)), desk_of((5, 5)).ask("met"), signs_all((9, 9), 18)
        self.assertEqual(firsts, kept)

    def test_a_told_table_of_one_is_no_part_of_another(self):
        one, other = table_of((6, 3)), table_of((6, 3))
        one[(True, True)] = ()
        self.assertEqual(other[(True, True)], (2, 3, 9, 18))
        self.assertIs(table_shown((6, 3), one), False)
        self.assertIs(table_shown((6, 3), other), True)


if __name__ == "__main__":
    unittest.main()

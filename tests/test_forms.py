"""[6], [7]: forms, twins, the way of a form, and which forms are let; and [2] of these."""

import copy
import random
import unittest

from ledtowish.forms import are_twins, form_let, form_of, way_of
from ledtowish.texts import read_way, way_shown
from ledtowish.ways import numbers_of, worth_of

from samples import WORDS, compared, plain_all, plain_form, plain_worth, put_in_order, ways_of_all, ways_with

GREAT = 10 ** 40 + 7


def form(text):
    return form_of(read_way(text))


def random_way(many, numbers, chance):
    if many == 1:
        return chance.choice(numbers)
    left = chance.randint(1, many - 1)
    return (chance.choice(WORDS), random_way(left, numbers, chance), random_way(many - left, numbers, chance))


def random_form(depth, chance, but=None):
    """A form such as the looker is asked of, often broken in some manner."""
    if depth == 0 or chance.random() < 0.4:
        return chance.choice((1, 1, 2, 2, 3, 4, 6, 6, 12, 12)) if chance.random() < 0.97 else chance.choice((0, -1))
    kind = {"sum": "product", "product": "sum"}.get(but, chance.choice(("sum", "product")))
    if chance.random() < 0.05:
        kind = chance.choice(("sum", "product"))
    more = [random_form(depth - 1, chance, kind) for _ in range(chance.choice((1, 1, 2, 2, 2, 3)))]
    off = [random_form(depth - 1, chance, kind) for _ in range(chance.choice((0, 0, 1, 1, 2)))]
    if chance.random() < 0.05:
        more = []
    if chance.random() < 0.95:
        more, off = put_in_order(more), put_in_order(off)
    return (kind, tuple(more), tuple(off))


def plain_worth_let(told):
    """The worth of a form that is let, None of another one; by the document's words alone."""
    if isinstance(told, int):
        return told if told >= 1 else None
    kind, more, off = told
    worths = [plain_worth_let(part) for part in more]
    taken = [plain_worth_let(part) for part in off]
    if None in worths + taken or not more or len(more) + len(off) < 2:
        return None
    if any(not isinstance(part, int) and part[0] == kind for part in more + off):
        return None
    if any(compared(row[at], row[at + 1]) > 0 for row in (more, off) for at in range(len(row) - 1)):
        return None
    if kind == "sum":
        worth = sum(worths) - sum(taken)
        return worth if worth >= 1 else None
    over, under = 1, 1
    for number in worths:
        over *= number
    for number in taken:
        under *= number
    return over // under if over % under == 0 else None


class FormsOfWays(unittest.TestCase):
    def test_of_a_number(self):
        for number in (1, 7, 10 ** 6, GREAT):
            self.assertEqual(form_of(number), number)

    def test_of_each_word(self):
        self.assertEqual(form_of(("plus", 6, 3)), ("sum", (3, 6), ()))
        self.assertEqual(form_of(("less", 6, 3)), ("sum", (6,), (3,)))
        self.assertEqual(form_of(("times", 6, 3)), ("product", (3, 6), ()))
        self.assertEqual(form_of(("share", 6, 3)), ("product", (6,), (3,)))

    def test_sums_within_sums(self):
        self.assertEqual(form("(1 + 2) + 3"), ("sum", (1, 2, 3), ()))
        self.assertEqual(form("9 - (2 + 3)"), ("sum", (9,), (2, 3)))
        self.assertEqual(form("9 - (5 - 3)"), ("sum", (3, 9), (5,)))
        self.assertEqual(form("(9 - 2) - (5 - 3)"), ("sum", (3, 9), (2, 5)))
        self.assertEqual(form("(9 - 2) + (5 - 3)"), ("sum", (5, 9), (2, 3)))
        self.assertEqual(form("20 - (9 - (5 - 3))"), ("sum", (5, 20), (3, 9)))

    def test_products_within_products(self):
        self.assertEqual(form("(4 * 2) * 3"), ("product", (2, 3, 4), ()))
        self.assertEqual(form("9 / (2 * 3)"), ("product", (9,), (2, 3)))
        self.assertEqual(form("9 / (6 / 3)"), ("product", (3, 9), (6,)))
        self.assertEqual(form("(9 / 2) / (5 / 3)"), ("product", (3, 9), (2, 5)))
        self.assertEqual(form("(9 / 2) * (5 / 3)"), ("product", (5, 9), (2, 3)))
        self.assertEqual(form("20 / (9 / (5 / 3))"), ("product", (5, 20), (3, 9)))

    def test_sums_within_products_and_products_within_sums(self):
        self.assertEqual(form("(1 + 2) * 3"), ("product", (3, ("sum", (1, 2), ())), ()))
        self.assertEqual(form("12 / (5 - 2)"), ("product", (12,), (("sum", (5,), (2,)),)))
        self.assertEqual(form("(1 * 2) + 3"), ("sum", (3, ("product", (1, 2), ())), ()))
        self.assertEqual(form("30 - (8 / 2)"), ("sum", (30,), (("product", (8,), (2,)),)))
        self.assertEqual(form("30 - ((5 - 2) * 4)"), ("sum", (30,), (("product", (4, ("sum", (5,), (2,))), ()),)))

    def test_of_ways_without_a_worth(self):
        self.assertEqual(form("3 - 6"), ("sum", (3,), (6,)))
        self.assertEqual(form("6 - 6"), ("sum", (6,), (6,)))
        self.assertEqual(form("3 / 6"), ("product", (3,), (6,)))
        self.assertEqual(form("1 - ((2 - 3) - (4 / 5))"), ("sum", (1, 3, ("product", (4,), (5,))), (2,)))

    def test_nothing_is_left_out_against_its_like(self):
        self.assertEqual(form("(5 + 3) - 3"), ("sum", (3, 5), (3,)))
        self.assertEqual(form("(5 * 3) / 3"), ("product", (3, 5), (3,)))
        self.assertEqual(form("((1 + 2) * 7) / (1 + 2)"),
                         ("product", (7, ("sum", (1, 2), ())), (("sum", (1, 2), ()),)))
        self.assertEqual(form("5 * 1"), ("product", (1, 5), ()))
        self.assertEqual(form("5 / 1"), ("product", (5,), (1,)))

    def test_more_and_off_are_tuples(self):
        told = form("((9 - 2) * 3) - (5 / 4)")
        waiting = [told]
        while waiting:
            part = waiting.pop()
            if not isinstance(part, int):
                self.assertEqual([type(thing) for thing in part], [str, tuple, tuple])
                waiting += part[1] + part[2]

    def test_all_small_ways(self):
        for many in (1, 2, 3):
            for way in ways_with(many, (1, 2, 3, 4)):
                self.assertEqual(form_of(way), plain_form(way), way)
        for way in ways_with(4, (2, 3)):
            self.assertEqual(form_of(way), plain_form(way), way)

    def test_ways_of_eight_numbers(self):
        chance = random.Random(1)
        for _ in range(1500):
            way = random_way(8, (1, 2, 3, 10 ** 6, GREAT), chance)
            self.assertEqual(form_of(way), plain_form(way), way)


class OrderOfParts(unittest.TestCase):
    RISING = (
        1, 2, 10, 10 ** 6, GREAT,
        ("sum", (1,), (1,)),
        ("sum", (1,), (1, 1)),
        ("sum", (1,), (2,)),
        ("sum", (1, 1), ()),
        ("sum", (1, 1), (5,)),
        ("sum", (1, 1, 1), ()),
        ("sum", (1, 2), ()),
        ("sum", (1, 2), (1,)),
        ("sum", (1, 2), (1, 1)),
        ("sum", (1, 2), (("product", (1, 2), ()),)),
        ("sum", (1, 10), ()),
        ("sum", (1, ("product", (1,), (1,))), ()),
        ("sum", (1, ("product", (1, 2), ())), ()),
        ("sum", (1, ("product", (1, 2), ())), (1,)),
        ("sum", (1, ("product", (1, 2), (1,))), ()),
        ("sum", (2,), (1,)),
        ("sum", (2, 2), ()),
        ("sum", (10,), (9,)),
        ("sum", (("product", (1, 1), ()),), (1,)),
        ("sum", (("product", (2, 3), ()), ("product", (2, 3), ())), ()),
        ("sum", (("product", (2, 3), (1,)), ("product", (2, 3), (1,))), ()),
        ("sum", (("product", (2, 3), (("sum", (1, 1), ()),)), ("product", (2, 4), ())), ()),
        ("product", (1,), (1,)),
        ("product", (1, 1), ()),
        ("product", (1, 2), ()),
        ("product", (1, 2), (3,)),
        ("product", (1, ("sum", (1, 1), ())), ()),
        ("product", (1, ("sum", (1, 2), ())), ()),
        ("product", (2, 2), ()),
        ("product", (("sum", (1, 1), ()),), (1,)),
        ("product", (("sum", (1, 1), ()), ("sum", (1, 2), ())), ()),
        ("product", (("sum", (1, 2), ()), ("sum", (1, 2), ())), ()),
        ("product", (("sum", (1, 2), (1,)), ("sum", (2, 2), ())), ()),
    )

    def joined_by(self, word, forms):
        """A way with the told forms' ways, from the last to the first."""
        ways = [way_of(told) for told in forms][::-1]
        way = ways[0]
        for other in ways[1:]:
            way = (word, way, other)
        return way

    def test_the_test_s_own_order_says_the_same(self):
        for at, one in enumerate(self.RISING):
            for place, other in enumerate(self.RISING):
                self.assertEqual(compared(one, other) < 0, at < place, (one, other))

    def test_each_two_in_more_and_in_off(self):
        for at, one in enumerate(self.RISING):
            for other in self.RISING[at:]:
                pair = [one, other]
                kinds = [told[0] for told in pair if not isinstance(told, int)]
                if "sum" not in kinds:
                    self.assertEqual(form_of(self.joined_by("plus", pair)), ("sum", (one, other), ()))
                    way = ("less", ("less", 5, way_of(other)), way_of(one))
                    self.assertEqual(form_of(way), ("sum", (5,), (one, other)))
                if "product" not in kinds:
                    self.assertEqual(form_of(self.joined_by("times", pair)), ("product", (one, other), ()))
                    way = ("share", ("share", 5, way_of(other)), way_of(one))
                    self.assertEqual(form_of(way), ("product", (5,), (one, other)))

    def test_whole_rows(self):
        sums = tuple(told for told in self.RISING if isinstance(told, int) or told[0] == "product")
        products = tuple(told for told in self.RISING if isinstance(told, int) or told[0] == "sum")
        self.assertEqual(form_of(self.joined_by("plus", sums)), ("sum", sums, ()))
        self.assertEqual(form_of(self.joined_by("times", products)), ("product", products, ()))

    def test_numbers_go_by_size_and_not_by_figures(self):
        self.assertEqual(form("(10 + 9) + (100 + 2)"), ("sum", (2, 9, 10, 100), ()))

    def test_a_row_that_begins_the_other_is_ahead(self):
        short, long = ("sum", (1, 2), ()), ("sum", (1, 2, 3), ())
        self.assertEqual(form("((1 + 2) + 3) * (2 + 1)"), ("product", (short, long), ()))


class Twins(unittest.TestCase):
    def test_twins(self):
        for one, other in (("5", "5"), ("2 + 3", "3 + 2"), ("2 * 3", "3 * 2"), ("(1 + 2) + 3", "3 + (2 + 1)"),
                           ("9 - (5 - 3)", "(9 + 3) - 5"), ("9 - (5 - 3)", "(9 - 5) + 3"),
                           ("(12 / 4) * 3", "12 / (4 / 3)"), ("(9 - 2) - 3", "9 - (3 + 2)"),
                           ("((1 + 2) * 3) - 4", "(3 * (2 + 1)) - 4"), ("3 - 5", "3 - 5")):
            self.assertIs(are_twins(read_way(one), read_way(other)), True, (one, other))
            self.assertIs(are_twins(read_way(other), read_way(one)), True, (one, other))

    def test_no_twins(self):
        for one, other in (("5", "6"), ("5 - 3", "3 - 5"), ("6 / 3", "3 / 6"), ("2 + 3", "2 * 3"), ("2 + 3", "2 - 3"),
                           ("2 + 3", "2 + 4"), ("(1 + 2) * 3", "(1 + 3) * 2"), ("(1 + 2) * 3", "1 + (2 * 3)"),
                           ("9 - (5 - 3)", "9 - (5 + 3)"), ("(9 - 5) - 3", "9 - (5 - 3)"), ("4 * 1", "4 / 1"),
                           ("2 + 2", "2 * 2"), ("5", "5 * 1"), ("(5 + 3) - 3", "5"), ("(4 - 2) * 3", "(4 - 3) * 2"),
                           ("12", "1 + 2"), ("4 / (1 + 3)", "(1 + 3) / 4")):
            self.assertIs(are_twins(read_way(one), read_way(other)), False, (one, other))
            self.assertIs(are_twins(read_way(other), read_way(one)), False, (one, other))

    def test_twins_are_just_those_of_one_form(self):
        ways = ways_of_all((1, 2, 2))
        forms = [plain_form(way) for way in ways]
        for one, its in zip(ways, forms):
            for other, others in zip(ways, forms):
                self.assertEqual(are_twins(one, other), its == others, (one, other))

    def test_twins_that_have_worths_have_the_same(self):
        worths = {}
        for way in ways_of_all((1, 2, 4, 6)):
            kind, worth = plain_worth(way)
            if kind == "worth":
                self.assertEqual(worths.setdefault(form_of(way), worth), worth, way)


class WaysOfForms(unittest.TestCase):
    def test_told(self):
        for told, text in (
            (7, "7"),
            (("sum", (1, 2), ()), "1 + 2"),
            (("sum", (1, 2, 3), ()), "(1 + 2) + 3"),
            (("sum", (9,), (2,)), "9 - 2"),
            (("sum", (9, 10), (1, 2)), "((9 + 10) - 1) - 2"),
            (("product", (2, 3, 4), ()), "(2 * 3) * 4"),
            (("product", (12,), (2, 3)), "(12 / 2) / 3"),
            (("product", (4, 9), (2, 3)), "((4 * 9) / 2) / 3"),
            (("product", (3, ("sum", (1, 2), ())), ()), "3 * (1 + 2)"),
            (("sum", (("product", (3, 4), ()),), (("product", (1, 2), ()), ("product", (4,), (2,)))),
             "((3 * 4) - (1 * 2)) - (4 / 2)"),
            (("product", (("sum", (9,), (3,)),), (("sum", (1, 2), ()),)), "(9 - 3) / (1 + 2)"),
        ):
            self.assertEqual(way_shown(way_of(told)), text)

    def test_read_back_to_the_same_form_with_the_same_worth(self):
        for numbers in ((1, 2, 3, 4), (6, 6, 3, 2), (10 ** 6, 10 ** 6, 4, 2)):
            for told, worth in plain_all(numbers).items():
                way = way_of(told)
                self.assertEqual(form_of(way), told)
                self.assertEqual(worth_of(way), worth)
                self.assertEqual(form_of(read_way(way_shown(way))), told)


class LetForms(unittest.TestCase):
    def let(self, *forms):
        for told in forms:
            self.assertIs(form_let(told), True, told)

    def not_let(self, *forms):
        for told in forms:
            self.assertIs(form_let(told), False, told)

    def test_let(self):
        self.let(1, 10 ** 6, GREAT, ("sum", (1, 1), ()), ("sum", (2,), (1,)), ("product", (1, 1), ()),
                 ("product", (4,), (2,)), ("product", (3,), (3,)), ("sum", (1, 2, 3), (1, 4)),
                 ("product", (3, ("sum", (5,), (4,))), ()), ("sum", (GREAT,), (GREAT - 1,)),
                 ("product", (GREAT, 10 * GREAT), (2, 5, GREAT)))

    def test_a_number_below_one(self):
        self.not_let(0, -1, -GREAT)
        self.not_let(("sum", (0, 1), ()), ("sum", (2,), (0,)), ("sum", (2,), (-1,)), ("product", (0, 3), ()),
                     ("product", (3,), (0,)), ("product", (-2, -1), ()), ("sum", (("product", (-2, -1), ()),), (1,)))

    def test_a_part_that_is_not_let(self):
        self.not_let(("sum", (9, ("product", (3,), (2,))), ()), ("product", (9, ("sum", (3,), (3,))), ()),
                     ("sum", (9,), (("product", (), (1, 1)),)), ("product", (2, ("product", (3,), (2,))), ()),
                     ("product", (9, ("sum", (3,), ())), ()), ("product", (6,), (("sum", (2, 1), ()),)),
                     ("product", (2, ("sum", (3, ("product", (1,), (2,))), ())), ()))
        self.let(("product", (6,), (("sum", (1, 2), ()),)))

    def test_more_empty(self):
        self.not_let(("sum", (), (1, 2)), ("product", (), (1, 1)), ("sum", (), ()), ("product", (), ()))

    def test_fewer_than_two_parts(self):
        self.not_let(("sum", (5,), ()), ("product", (5,), ()), ("sum", (("product", (1, 2), ()),), ()),
                     ("product", (("sum", (1, 2), ()),), ()), ("sum", (), (1,)), ("product", (), (1,)))

    def test_a_part_of_the_same_kind(self):
        self.not_let(("sum", (3, ("sum", (1, 2), ())), ()), ("sum", (9,), (("sum", (1, 2), ()),)),
                     ("product", (3, ("product", (1, 2), ())), ()), ("product", (6,), (("product", (1, 2), ()),)),
                     ("sum", (1, ("product", (2, ("product", (1, 2), ())), ())), ()))

    def test_order_broken(self):
        self.not_let(("sum", (2, 1), ()), ("sum", (9,), (2, 1)), ("product", (2, 1), ()), ("product", (9,), (3, 1)),
                     ("sum", (("product", (1, 2), ()), 1), ()), ("product", (("sum", (1, 2), ()), 1), ()),
                     ("product", (("sum", (1, 2), ()), ("sum", (1, 1), ())), ()),
                     ("product", (("sum", (1, 2, 3), ()), ("sum", (1, 2), ())), ()),
                     ("product", (("sum", (3, 4), (2,)), ("sum", (3, 4), (1,))), ()),
                     ("sum", (9,), (("product", (1, 2), ()), 1)),
                     ("product", (1, ("sum", (3, 2), ())), ()))
        self.let(("sum", (9,), (1, 2)), ("product", (9,), (1, 3)),
                 ("product", (("sum", (1, 2), ()), ("sum", (1, 2, 3), ())), ()),
                 ("product", (("sum", (3, 4), (1,)), ("sum", (3, 4), (2,))), ()))

    def test_a_worth_below_one(self):
        self.not_let(("sum", (3,), (3,)), ("sum", (3,), (4,)), ("sum", (1, 2), (1, 2)), ("sum", (5,), (1, 2, 3)),
                     ("sum", (5,), (("product", (2, 3), ()),)))
        self.let(("sum", (4,), (3,)), ("sum", (1, 3), (1, 2)), ("sum", (7,), (1, 2, 3)))

    def test_a_worth_that_is_not_whole(self):
        self.not_let(("product", (3,), (2,)), ("product", (1,), (2,)), ("product", (2, 3), (4,)),
                     ("product", (12,), (3, 8)), ("product", (GREAT,), (GREAT + 1,)))
        self.let(("product", (2, 6), (4,)), ("product", (2, 12), (3, 8)))

    def test_another_shape(self):
        self.not_let((), ("sum",), ("sum", (1, 2)), ("sum", (1, 2), (), ()), ("plus", (1, 2), ()), (1, 2, 3),
                     ("sum", 1, 2), True, ("sum", (True, 1), ()), ("product", (2, ("less", 2, 1)), ()))

    def test_all_let_forms_of_small_rows(self):
        for numbers in ((1, 1, 2, 3), (2, 4, 6, 12), (5, 5, 5, 5)):
            for told in plain_all(numbers):
                self.assertIs(form_let(told), True, told)

    def test_many_broken_and_whole_ones(self):
        chance = random.Random(2)
        counted = {True: 0, False: 0}
        for _ in range(20000):
            told = random_form(3, chance)
            let = plain_worth_let(told) is not None
            self.assertIs(form_let(told), let, told)
            counted[let] += not isinstance(told, int)
        self.assertGreater(min(counted.values()), 1000)

    def test_the_way_of_a_let_form_has_its_worth(self):
        chance = random.Random(3)
        for _ in range(5000):
            told = random_form(3, chance)
            worth = plain_worth_let(told)
            if worth is not None:
                self.assertEqual(worth_of(way_of(told)), worth)
                self.assertEqual(form_of(way_of(told)), told)


class Keeping(unittest.TestCase):
    def test_what_is_handed_in_stays_and_is_answered_the_same(self):
        way = ("times", ("less", 9, ("less", 5, 2)), ("share", 8, 4))
        told = form_of(way)
        kept = copy.deepcopy((way, told))
        answers = [(form_of(way), way_of(told), form_let(told), are_twins(way, way_of(told))) for _ in range(3)]
        self.assertEqual((way, told), kept)
        self.assertEqual(answers, [answers[0]] * 3)

    def test_told_worths_may_be_handed_on(self):
        worth = worth_of(("times", 10 ** 6, ("times", 10 ** 6, 10 ** 6)))
        told = form_of(("less", ("times", worth, worth), worth))
        self.assertEqual(told, ("sum", (("product", (worth, worth), ()),), (worth,)))
        self.assertIs(form_let(told), True)
        self.assertEqual(worth_of(way_of(told)), worth * worth - worth)

    def test_ways_beyond_the_bound_are_not_refused(self):
        for words in (("plus", "times"), ("less", "share"), ("plus", "plus"), ("share", "share")):
            deep = 1
            for at in range(600):
                deep = (words[at % 2], deep, 1 + at % 3)
            self.assertIs(are_twins(deep, deep), True)
            self.assertIs(are_twins(deep, ("plus", deep, 1)), False)
            told = form_of(deep)
            self.assertEqual(sorted(numbers_of(way_of(told))), sorted(numbers_of(deep)))
            self.assertIs(form_let(told), words[0] == "plus")


if __name__ == "__main__":
    unittest.main()

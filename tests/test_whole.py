"""[18]: the desk; and [2] of it."""

import random
import unittest

from ledtowish.errors import NoAsk, NoText, NoWay, WishError
from ledtowish.whole import Desk

from samples import many_in, plain_all, plain_form, plain_worth, put_in_order

NO_NUMBERS = ("0", "00", "01", "007", "1000001", "9999999", "10000000", "1" + "0" * 30, "9" * 390, "9" * 5000,
              "-1", "+1", "1.0", "1e3", "1_0", "x", "one", "1x", "x1", "0x1", "()", "(1)", "1,", "1,2", "1;", ";",
              "1+1", "\u0661", "\u00b2", "\uff11", "1\t", "\t1", "None", "True")
NO_TEXTS = ("", " ", " 5", "5 ", "  ", "0", "05", "-5", "+5", "1+2", "1 +2", "1+ 2", "1  + 2", "1 +  2", "1 + 2 ",
            " 1 + 2", "(1)", "(1 + 2)", "1 + (2)", "1 + 2 + 3", "(1 + 2", "1 + 2)", "1 plus 2", "1 +", "+ 1", "1 + 0",
            "1 + 02", "x", "1 x 2", "1 ** 2", "1 // 2", "1 : 2", "()", ")(", "1 2", "1,", "5.", "[1 + 2] * 3",
            "worth 5", "5\t", "\u0661")


def lit(written):
    """A way of a written text, by Python's own reading of the signs as words."""
    class Way(tuple):
        def __add__(self, other):
            return Way((("plus", self[0], other[0]),))

        def __sub__(self, other):
            return Way((("less", self[0], other[0]),))

        def __mul__(self, other):
            return Way((("times", self[0], other[0]),))

        def __truediv__(self, other):
            return Way((("share", self[0], other[0]),))

    names = {}
    parts = written.replace("(", "( ").replace(")", " )").split()
    for at, part in enumerate(parts):
        if part.isdigit():
            names["n" + part] = Way((int(part),))
            parts[at] = "n" + part
    return eval(" ".join(parts), {}, names)[0]


def desk_with(*lines):
    desk = Desk()
    for line in lines:
        desk.ask(line)
    return desk


class Asking(unittest.TestCase):
    def refused(self, error, desk, line):
        with self.assertRaises(WishError, msg=repr(line)) as caught:
            desk.ask(line)
        self.assertIs(type(caught.exception), error, line)
        return caught.exception

    def rows(self, desk, line, rows):
        told = desk.ask(line)
        self.assertIs(type(told), list, line)
        self.assertEqual(told, rows, line)
        self.assertEqual([type(row) for row in told], [str] * len(told))


class Telling(Asking):
    def test_numbers_and_wish_tell_no_rows(self):
        desk = Desk()
        for line in ("numbers", "numbers 1", "numbers 1 2", "numbers 3 3 3", "numbers 9 8 7 6", "numbers 1000000",
                     "wish 1", "wish 1000000", "wish 7"):
            self.rows(desk, line, [])

    def test_numbers_anew(self):
        desk = desk_with("numbers 6 3")
        self.rows(desk, "met", ["2 3 6 9 18"])
        desk.ask("numbers 4 4")
        self.rows(desk, "met", ["1 4 8 16"])
        desk.ask("numbers 5")
        self.rows(desk, "met", ["5"])
        desk.ask("numbers")
        self.rows(desk, "met", [])
        desk.ask("numbers 1 1 1 1")
        self.rows(desk, "met", ["1 2 3 4"])

    def test_a_wish_anew(self):
        desk = desk_with("numbers 6 3", "wish 9")
        self.rows(desk, "ways", ["3 + 6"])
        desk.ask("wish 2")
        self.rows(desk, "ways", ["6 / 3"])
        desk.ask("numbers 8 4")
        self.rows(desk, "ways", ["8 / 4"])

    def test_numbers_that_are_refused(self):
        for word in NO_NUMBERS:
            for line in ("numbers " + word, "numbers 1 " + word, "numbers " + word + " 1",
                         "numbers 1 2 " + word + " 3"):
                desk = desk_with("numbers 6 3", "wish 9")
                self.refused(NoAsk, desk, line)
                self.rows(desk, "met", ["2 3 6 9 18"])
                self.rows(desk, "ways", ["3 + 6"])

    def test_a_wish_that_is_refused(self):
        for word in NO_NUMBERS:
            desk = desk_with("numbers 6 3", "wish 9")
            self.refused(NoAsk, desk, "wish " + word)
            self.rows(desk, "ways", ["3 + 6"])
            fresh = desk_with("numbers 6 3")
            self.refused(NoAsk, fresh, "wish " + word)
            self.refused(NoAsk, fresh, "ways")

    def test_too_many_numbers(self):
        for line in ("numbers 1 2 3 4 5", "numbers 1 1 1 1 1 1 1 1", "numbers 1 2 3 4 x", "numbers 1 2 3 4 0"):
            desk = desk_with("numbers 6 3")
            self.refused(NoAsk, desk, line)
            self.rows(desk, "met", ["2 3 6 9 18"])

    def test_too_many_or_no_wishes(self):
        desk = desk_with("numbers 6 3", "wish 9")
        for line in ("wish", "wish ", "wish 1 2", "wish 1 1", "wish 1 x", "wish  1", "wish 1 ", "wish x 1"):
            self.refused(NoAsk, desk, line)
            self.rows(desk, "ways", ["3 + 6"])

    def test_the_edges_of_numbers(self):
        desk = desk_with("numbers 1 1000000", "wish 1000000")
        self.rows(desk, "met", ["1 999999 1000000 1000001"])
        self.rows(desk, "ways", ["1000000", "1 * 1000000", "1000000 / 1"])
        desk.ask("wish 1")
        self.rows(desk, "ways", ["1"])


class OtherLines(Asking):
    def setUp(self):
        self.desk = desk_with("numbers 6 3", "wish 9")

    def tearDown(self):
        self.rows(self.desk, "met", ["2 3 6 9 18"])
        self.rows(self.desk, "ways", ["3 + 6"])

    def test_other_lines(self):
        for line in ("", " ", "  ", "x", "number", "number 1", "Numbers 1", "NUMBERS 1", "wishes 5", "Wish 5", "way",
                     "waysx", "Ways", "WAYS", "much", "meet", "nearest", "Near", "worths 5", "Worth 5", "twin 1;1",
                     "use 5", "help", "quit", "5", "1 + 2", "numbers1", "wish5", "worth5", "twins1;1", "uses5",
                     "numbers,1",
                     "worth(1)", "tell numbers 1", ";", "met;", "ways;", "\t", "numbers\t1", "wish\t5", "worth\t5",
                     "\u00e9"):
            self.refused(NoAsk, self.desk, line)

    def test_a_word_more(self):
        for word in ("ways", "many", "met", "near"):
            for more in (" 9", " ways", " x", " ", "  ", " 9 9", ";"):
                self.refused(NoAsk, self.desk, word + more)

    def test_blanks_ahead(self):
        for line in ("numbers 1", "numbers", "wish 5", "ways", "many", "met", "near", "worth 5", "twins 1;1", "uses 6"):
            for ahead in (" ", "  ", "\t"):
                self.refused(NoAsk, self.desk, ahead + line)

    def test_blanks_behind(self):
        for line in ("numbers 1", "numbers 1 2", "numbers", "wish 5", "ways", "many", "met", "near"):
            for behind in (" ", "  ", "\t"):
                self.refused(NoAsk, self.desk, line + behind)

    def test_words_parted_by_two_blanks(self):
        for line in ("numbers  1", "numbers 1  2", "numbers 1 2  3", "wish  5", "numbers   ", "wish  "):
            self.refused(NoAsk, self.desk, line)

    def test_line_ends(self):
        for line in ("numbers 1", "numbers", "wish 5", "ways", "many", "met", "near", "worth 5", "worth ", "twins 1;1",
                     "uses 6", "", "x"):
            for end in ("\n", "\r", "\r\n", "\n\n"):
                self.refused(NoAsk, self.desk, line + end)
                self.refused(NoAsk, self.desk, end + line)
        for line in ("worth 1\n+ 2", "worth 1 +\r2", "twins 1\n;1", "twins 1;\n1", "uses 6 +\n3", "numbers 1\n2",
                     "numbers\n1", "wi\nsh 5", "worth\n5", "worth x\n"):
            self.refused(NoAsk, self.desk, line)

    def test_a_lacking_blank(self):
        for line in ("worth", "twins", "uses"):
            self.refused(NoAsk, self.desk, line)


class Wishing(Asking):
    def test_without_a_wish(self):
        for told in ((), ("numbers",), ("numbers 6 3",), ("numbers 1 2 3 4",)):
            for line in ("ways", "many", "near"):
                self.refused(NoAsk, desk_with(*told), line)

    def test_without_numbers(self):
        for told in (("wish 5",), ("wish 5", "numbers"), ("numbers 6 3", "wish 9", "numbers")):
            desk = desk_with(*told)
            self.rows(desk, "ways", [])
            self.rows(desk, "many", ["0"])
            self.rows(desk, "met", [])
            self.assertEqual(self.refused(NoWay, desk, "near").word, "plus")

    def test_told(self):
        desk = desk_with("numbers 1 2 3 4", "wish 24")
        self.rows(desk, "ways", ["((1 * 2) * 3) * 4", "(2 * 3) * 4", "((2 * 3) * 4) / 1", "4 * ((1 + 2) + 3)",
                                 "(1 + 3) * (2 + 4)"])
        self.rows(desk, "many", ["5"])
        self.rows(desk, "near", ["24 2", "(2 * 3) * 4"])
        desk.ask("wish 1000000")
        self.rows(desk, "ways", [])
        self.rows(desk, "many", ["0"])
        self.rows(desk, "near", ["36 3", "(3 * 4) * (1 + 2)"])
        desk.ask("numbers 7")
        self.rows(desk, "near", ["7 0", "7"])

    def test_each_row_of_ways(self):
        chance = random.Random(19)
        desk = Desk()
        for _ in range(40):
            greatest = chance.choice((4, 10, 100, 10 ** 6))
            numbers = tuple(chance.randint(1, greatest) for _ in range(chance.randint(1, 4)))
            told = plain_all(numbers)
            desk.ask("numbers " + " ".join(str(number) for number in numbers))
            self.rows(desk, "met", [" ".join(str(worth) for worth in sorted(set(told.values())))])
            near = [worth for worth in told.values() if worth <= 10 ** 6]
            for wish in (chance.randint(1, greatest), chance.choice(near)):
                desk.ask("wish " + str(wish))
                forms = put_in_order([form for form, worth in told.items() if worth == wish])
                rows = desk.ask("ways")
                self.assertEqual(tuple(plain_form(lit(row)) for row in rows), forms)
                self.assertEqual([plain_worth(lit(row)) for row in rows], [("worth", wish)] * len(rows))
                self.rows(desk, "many", [str(len(forms))])
                self.near(desk, told, wish)

    def near(self, desk, told, wish):
        worth = min(told.values(), key=lambda one: (abs(one - wish), one))
        few = min(many_in(form) for form, come in told.items() if come == worth)
        first = put_in_order([form for form, come in told.items() if come == worth and many_in(form) == few])[0]
        head, row = desk.ask("near")
        self.assertEqual(head, f"{worth} {few - 1}")
        self.assertEqual(plain_form(lit(row)), first)

    def test_parts_in_the_order_of_forms(self):
        desk = desk_with("numbers 9 5 3", "wish 7")
        self.rows(desk, "ways", ["(3 + 9) - 5"])
        desk.ask("numbers 12 2 3")
        desk.ask("wish 2")
        self.rows(desk, "ways", ["2", "(12 / 3) - 2", "(12 / 2) / 3"])


class Texts(Asking):
    def test_worth(self):
        desk = Desk()
        for text, worth in (("5", "5"), ("1 + 2", "3"), ("9 - 2", "7"), ("6 * 7", "42"), ("8 / 2", "4"), ("2 - 1", "1"),
                            ("(1 + 2) * 3", "9"), ("1 + (2 * 3)", "7"), ("(9 - 2) - (3 - 1)", "5"), ("1 / 1", "1"),
                            ("1000000 * 1000000", "1000000000000"), ("9999999 + 1", "10000000")):
            self.rows(desk, "worth " + text, [worth])

    def test_worth_of_great_numbers(self):
        desk = Desk()
        self.rows(desk, "worth " + "9" * 390, ["9" * 390])
        self.rows(desk, "worth " + "9" * 6000, ["9" * 6000])
        self.rows(desk, "worth " + "9" * 180 + " * " + "1" + "0" * 180, ["9" * 180 + "0" * 180])

    def test_a_way_without_a_worth(self):
        desk = desk_with("numbers 6 3", "wish 9")
        for text, word in (("2 - 9", "less"), ("5 - 5", "less"), ("7 / 2", "share"), ("1 + (2 / 3)", "share"),
                           ("(2 - 3) * (1 / 2)", "less"), ("(1 / 2) - (2 - 3)", "share"), ("(3 / 2) * 2", "share")):
            self.assertEqual(self.refused(NoWay, desk, "worth " + text).word, word)

    def test_texts_that_are_none(self):
        desk = desk_with("numbers 6 3", "wish 9")
        for text in NO_TEXTS:
            self.refused(NoText, desk, "worth " + text)
            self.refused(NoText, desk, "uses " + text)
            self.refused(NoText, desk, "twins " + text + ";1 + 2")
            self.refused(NoText, desk, "twins 1 + 2;" + text)
            self.refused(NoText, desk, "twins " + text + ";" + text)
        for text in ("1;2", ";", "1;", "1 + 2;"):
            self.refused(NoText, desk, "worth " + text)
            self.refused(NoText, desk, "uses " + text)
        self.rows(desk, "ways", ["3 + 6"])

    def test_twins(self):
        desk = Desk()
        for one, other, told in (("1 + 2", "2 + 1", "yes"), ("1 + 2", "1 + 2", "yes"), ("1 + 2", "1 * 2", "no"),
                                 ("5", "5", "yes"), ("5", "6", "no"), ("9 - (5 - 3)", "(9 + 3) - 5", "yes"),
                                 ("9 - 5", "5 - 9", "no"), ("8 / (4 / 2)", "(8 * 2) / 4", "yes"), ("3", "1 + 2", "no"),
                                 ("1 - 2", "1 - 2", "yes"), ("1 / 2", "2 / 1", "no"),
                                 ("(1 - 2) + 3", "3 - (2 - 1)", "yes"),
                                 ("2 + 2", "2 * 2", "no"), ("(1 + 2) * 3", "3 * (2 + 1)", "yes"),
                                 ("1 + (2 * 3)", "(1 + 2) * 3", "no")):
            self.rows(desk, f"twins {one};{other}", [told])
            self.rows(desk, f"twins {other};{one}", [told])

    def test_twins_without_just_one_parting(self):
        desk = Desk()
        for text in ("", " ", "1", "1 + 2", "x", "1;2;3", ";;", "1;;1", "1 + 2;2 + 1;", ";1;1", "1 1", "1:1", "1,1",
                     "x;y;z"):
            self.refused(NoAsk, desk, "twins " + text)

    def test_twins_of_empty_texts(self):
        desk = Desk()
        for text in (";", "1;", ";1", " ;", "; ", "1 + 2; 2 + 1", "1 + 2 ;2 + 1", " 1;1", "1;1 "):
            self.refused(NoText, desk, "twins " + text)

    def test_uses(self):
        desk = desk_with("numbers 6 3 3 1")
        for text, told in (("6", "yes"), ("3", "yes"), ("3 + 3", "yes"), ("6 + 6", "no"), ("(3 + 3) + 3", "no"),
                           ("5", "no"), ("(6 + 3) * (3 - 1)", "yes"), ("(6 + 3) * (1 - 1)", "no"), ("1 - 6", "yes"),
                           ("1 / 3", "yes"), ("6 + 5", "no"), ("5 + 6", "no"), ("63", "no"), ("1000001", "no"),
                           ("((6 + 3) + 3) + 1", "yes"), ("(((6 + 3) + 3) + 1) + 1", "no")):
            self.rows(desk, "uses " + text, [told])
        desk.ask("numbers 3")
        self.rows(desk, "uses 3", ["yes"])
        self.rows(desk, "uses 3 + 3", ["no"])
        desk.ask("numbers 3 3 3 3")
        self.rows(desk, "uses (3 + 3) * (3 - 3)", ["yes"])
        self.rows(desk, "uses ((3 + 3) * (3 - 3)) / 3", ["no"])

    def test_uses_of_no_numbers(self):
        for desk in (Desk(), desk_with("numbers"), desk_with("numbers 5", "numbers")):
            self.rows(desk, "uses 5", ["no"])
            self.rows(desk, "uses 5 + 5", ["no"])

    def test_texts_need_neither_numbers_nor_a_wish(self):
        self.rows(Desk(), "worth 1 + 2", ["3"])
        self.rows(Desk(), "twins 1 + 2;2 + 1", ["yes"])
        self.rows(Desk(), "uses 1 + 2", ["no"])


class Keeping(Asking):
    def state(self, desk):
        return [desk.ask(line) for line in ("met", "ways", "many", "near", "uses 6 + 3")]

    def test_a_refused_line_changes_nothing(self):
        desk = desk_with("numbers 6 3", "wish 9")
        kept = self.state(desk)
        self.assertEqual(kept, [["2 3 6 9 18"], ["3 + 6"], ["1"], ["9 1", "3 + 6"], ["yes"]])
        for line in ("numbers 1 2 x", "numbers 1 2 3 4 5", "numbers ", "numbers 0", "wish 0", "wish 1 2",
                     "wish 1000001", "wish",
                     "worth x", "worth 1 - 2", "uses x", "twins 1", "twins x;y", "x", "", "ways 1", "numbers 5\n",
                     "wish 5\n"):
            with self.assertRaises(WishError):
                desk.ask(line)
            self.assertEqual(self.state(desk), kept, line)

    def test_a_refused_line_tells_no_wish(self):
        desk = desk_with("numbers 6 3")
        for line in ("wish 0", "wish x", "wish 5 5", "wish 5\n", "wish 5 "):
            self.refused(NoAsk, desk, line)
            self.refused(NoAsk, desk, "near")

    def test_asking_changes_nothing(self):
        desk = desk_with("numbers 6 3", "wish 9")
        kept = self.state(desk)
        for line in ("worth 5", "twins 1;1", "uses 5", "ways", "many", "met", "near"):
            desk.ask(line)
            self.assertEqual(self.state(desk), kept)

    def test_two_desks_by_turns(self):
        one, other = Desk(), Desk()
        one.ask("numbers 6 3")
        other.ask("wish 16")
        self.rows(other, "met", [])
        self.refused(NoAsk, one, "ways")
        one.ask("wish 9")
        other.ask("numbers 4 4")
        self.rows(one, "ways", ["3 + 6"])
        self.rows(other, "ways", ["4 * 4"])
        self.rows(one, "met", ["2 3 6 9 18"])
        self.rows(other, "met", ["1 4 8 16"])
        one.ask("numbers")
        self.rows(other, "uses 4", ["yes"])
        self.rows(one, "uses 4", ["no"])
        self.rows(Desk(), "met", [])

    def test_told_lists_may_be_emptied(self):
        desk = desk_with("numbers 6 3", "wish 9")
        kept = self.state(desk)
        for line in ("met", "ways", "many", "near", "uses 6 + 3", "worth 5", "numbers 6 3", "wish 9"):
            desk.ask(line).clear()
            desk.ask(line).append("x")
            self.assertEqual(self.state(desk), kept)
        desk.ask("numbers").append("x")
        desk.ask("met").append("x")
        self.rows(desk, "met", [])
        self.rows(desk, "numbers 1", [])


if __name__ == "__main__":
    unittest.main()

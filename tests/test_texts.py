"""[5]: ways written and read; and [2] of these."""

import copy
import random
import re
import unittest

from ledtowish.errors import NoAsk, NoText, NoWay, WishError
from ledtowish.texts import read_way, way_shown
from ledtowish.ways import numbers_of, worth_of

from samples import leaning, ways_with

PAIRS = (
    (1, "1"),
    (10, "10"),
    (1000000, "1000000"),
    (("plus", 1, 2), "1 + 2"),
    (("less", 1, 2), "1 - 2"),
    (("times", 10, 20), "10 * 20"),
    (("share", 7, 3), "7 / 3"),
    (("plus", ("plus", 1, 2), 3), "(1 + 2) + 3"),
    (("plus", 1, ("plus", 2, 3)), "1 + (2 + 3)"),
    (("plus", ("times", 2, 3), 4), "(2 * 3) + 4"),
    (("times", ("less", 9, 2), ("share", 8, 4)), "(9 - 2) * (8 / 4)"),
    (("share", ("less", ("plus", 1, 2), 3), 4), "((1 + 2) - 3) / 4"),
    (("less", 1, ("share", 2, ("times", 3, 4))), "1 - (2 / (3 * 4))"),
    (("plus", ("times", ("less", 9, 2), ("share", 8, 4)), ("less", ("plus", 3, 100), ("times", 5, 7))),
     "((9 - 2) * (8 / 4)) + ((3 + 100) - (5 * 7))"),
)

WRONG = {
    "nothing": ("",),
    "blanks missing": ("1+2", "1 +2", "1+ 2", "1 + (2+ 3)", "(1 + 2)+3", "(1 + 2) +3", "1 +(2 + 3)"),
    "blanks doubled": ("1  + 2", "1 +  2", "1  +  2", "(1 + 2)  - 3", "1 - (2  - 3)"),
    "blanks ahead or behind": (" 1", "1 ", " ", "  ", " 1 + 2", "1 + 2 ", "(1 + 2) + 3 ", " (1 + 2) + 3",
                               "( 1 + 2) + 3", "(1 + 2 ) + 3", "1 + ( 2 + 3)", "1 + (2 + 3 )"),
    "blanks within a number": ("1 2", "1 2 + 3", "1 000"),
    "brackets about the whole": ("(1 + 2)", "((1 + 2) + 3)", "(1 + (2 + 3))", "((1 + 2) - (3 + 4))"),
    "brackets about a number": ("(1)", "((1))", "(1) + 2", "1 + (2)", "(1) + (2)", "((1) + 2) + 3"),
    "brackets doubled": ("((1 + 2)) + 3", "1 + ((2 + 3))", "((1 + 2))", "(((1 + 2))) + 3"),
    "brackets missing": ("(1 + 2", "1 + 2)", "(1 + 2 + 3", "1 + 2) + 3", "1 + (2 + 3", "1 + 2 + 3)",
                         "((1 + 2) + 3", "(1 + 2)) + 3", "1 + 2) + (3 + 4", "1 + 2)) - ((3 + 4",
                         "(1 + 2) + 3) + (4 + 5"),
    "brackets too many": ("((1 + 2) + 3", "(1 + 2) + 3)", "1 + 2()", "()1 + 2", "() + 1", "1 + ()", "1()",
                          "1 (+) 2", "1( + )2", "(1 +) 2", "1 (+ 2)", "((1 + 2) + 3) + 4)"),
    "brackets the other way about": (")1 + 2(", ")(", "1 + )2 + 3("),
    "other brackets": ("[1 + 2] + 3", "{1 + 2} + 3", "<1 + 2> + 3"),
    "a nought ahead": ("01", "00", "007", "01 + 2", "1 + 02", "(1 + 02) + 3", "0" * 64 + "1", "0" + "9" * 64),
    "the number 0": ("0", "0 + 1", "1 + 0", "1 * (2 - 0)", "0 - 0"),
    "three parts without brackets": ("1 + 2 + 3", "1 + 2 * 3", "1 - 2 - 3", "(1 + 2) + 3 + 4", "(1 + 2 + 3) + 4",
                                     "1 + (2 + 3 + 4)", "(1 + 2) + (3 + 4) + (5 + 6)"),
    "a word too few": ("1 2", "(1 + 2) 3", "(1 + 2)(3 + 4)", "(1 + 2)3", "3(1 + 2)", "(1 + 2) (3 + 4)", "1 + 2(3 + 4)"),
    "a sign too many": ("1 + + 2", "1 + - 2", "1 ++ 2", "1 + 2 +", "1 + 2 + ", "+ 1", " + 1", "1 +", "1 + ",
                        "1 ** 2", "1 // 2", "+", " + ", "1 -- 2"),
    "a sign ahead of a number": ("-1", "+1", "1 + -2", "-1 + 2", "1 - +2", "--1"),
    "other signs": ("1 x 2", "1 : 2", "1 ^ 2", "1 = 2", "1 , 2", "1 . 2", "a", "1a", "a + 1", "1 plus 2", "1 ~ 2",
                    "1.0", "1.5 + 2", "1_000", "1,000", "1e3", "0x10", "1 + 2;", "1 + 2 = 3", "!", "~", "$1", "#1"),
    "line ends and tabs": ("1\n", "\n1", "1\n+\n2", "1\t+\t2", "1 + 2\n", "1 +\n2"),
}

PART = r"(?:[1-9][0-9]*|w)"
WITHIN = re.compile(rf"\({PART} [-+*/] {PART}\)")
WHOLE = re.compile(rf"{PART}(?: [-+*/] {PART})?")


def is_a_ways_text(text):
    """By another road than the program's: brackets are folded from within."""
    if "w" in text:
        return False
    folded = WITHIN.sub("w", text)
    while folded != text:
        text, folded = folded, WITHIN.sub("w", folded)
    return WHOLE.fullmatch(text) is not None and text != "w"


def is_read(text):
    try:
        read_way(text)
    except NoText:
        return False
    return True


def edits_of(text, signs):
    """All texts with one sign less, one changed, one more, or two neighbours swapped."""
    for at in range(len(text) + 1):
        for sign in signs:
            yield text[:at] + sign + text[at:]
            yield text[:at] + sign + text[at + 1:]
        yield text[:at] + text[at + 1:]
        yield text[:at] + text[at + 1:at + 2] + text[at:at + 1] + text[at + 2:]


class Texts(unittest.TestCase):
    def test_written(self):
        for way, text in PAIRS:
            self.assertEqual(way_shown(way), text)

    def test_read(self):
        for way, text in PAIRS:
            self.assertEqual(read_way(text), way)

    def test_kinds(self):
        self.assertIs(type(read_way("12")), int)
        self.assertIs(type(read_way("1 + 2")), tuple)
        self.assertIs(type(read_way("1 + (2 * 3)")[2]), tuple)
        self.assertIs(type(way_shown(12)), str)

    def test_written_and_read_back(self):
        for many, numbers in ((1, (1, 9, 10)), (2, (1, 10, 203)), (3, (1, 20)), (4, (7, 10))):
            seen = {}
            for way in ways_with(many, numbers):
                text = way_shown(way)
                self.assertEqual(read_way(text), way)
                self.assertTrue(is_a_ways_text(text), text)
                self.assertNotIn(text, seen)
                seen[text] = way

    def test_read_with_a_worth_or_without(self):
        for text, word in (("1 - 1", "less"), ("1 - 2", "less"), ("2 / 3", "share"), ("(1 - 5) + 3", "less")):
            way = read_way(text)
            self.assertEqual(way_shown(way), text)
            with self.assertRaises(NoWay) as taken:
                worth_of(way)
            self.assertEqual(taken.exception.word, word)


class Refused(unittest.TestCase):
    def test_texts_that_are_none(self):
        for why, texts in WRONG.items():
            for text in texts:
                with self.subTest(why, text=text):
                    self.assertFalse(is_a_ways_text(text))
                    with self.assertRaises(NoText):
                        read_way(text)

    def test_the_refusal_is_of_its_kind_alone(self):
        with self.assertRaises(NoText) as taken:
            read_way("(1)")
        self.assertIsInstance(taken.exception, WishError)
        self.assertIsInstance(taken.exception, ValueError)
        self.assertNotIsInstance(taken.exception, (NoWay, NoAsk))

    def test_each_single_sign(self):
        for code in range(32, 127):
            self.assertEqual(is_read(chr(code)), chr(code) in "123456789", chr(code))

    def test_each_sign_between_two_numbers(self):
        for code in range(32, 127):
            self.assertEqual(is_read(f"1 {chr(code)} 2"), chr(code) in "+-*/", chr(code))

    def test_figures_of_other_scripts_are_none(self):
        for text in ("\u0661", "\u00b2", "1\u0661", "\uff11 + 2"):
            self.assertFalse(is_read(text))

    def test_all_short_texts(self):
        texts = [""]
        for _ in range(6):
            texts = [text + sign for text in texts for sign in "10 +()"]
            for text in texts:
                self.assertEqual(is_read(text), is_a_ways_text(text), text)

    def test_texts_one_edit_away(self):
        for _, text in PAIRS:
            for edited in edits_of(text, "10 +-*/()x"):
                self.assertEqual(is_read(edited), is_a_ways_text(edited), edited)

    def test_texts_some_edits_away(self):
        chance = random.Random(5)
        texts = [text for _, text in PAIRS]
        for _ in range(20000):
            text = chance.choice(texts)
            for _ in range(chance.randint(2, 4)):
                at, to = chance.randint(0, len(text)), chance.randint(0, 2)
                text = text[:at] + chance.choice(("", "(", ")", "1", " + ", " ", "0")) + text[at + to:]
            self.assertEqual(is_read(text), is_a_ways_text(text), text)


class LongTexts(unittest.TestCase):
    def test_brackets_alone(self):
        for many in (1, 2, 3, 100, 200, 399, 400, 4000):
            for text in ("(" * many, ")" * many, "()" * (many // 2), "(" * (many // 2) + ")" * (many // 2),
                         ")" * (many // 2) + "(" * (many // 2), ")(" * (many // 2)):
                self.assertFalse(is_read(text))

    def test_many_brackets_about_a_number_or_a_word(self):
        for many in (1, 2, 50, 190, 199):
            self.assertFalse(is_read("(" * many + "1" + ")" * many))
            self.assertFalse(is_read("(" * many + "1 + 2" + ")" * many))
            self.assertEqual(is_read("(" * many + "1 + 2" + ")" * many + " + 3"), many == 1)
            self.assertFalse(is_read("(" * many + "1 + 2"))
            self.assertFalse(is_read("1 + 2" + ")" * many))

    def test_deep_texts_are_read_back(self):
        for many in (8, 66, 67, 3000):
            for to_first in (True, False):
                text = way_shown(leaning(many, "less", to_first))
                way = read_way(text)
                self.assertEqual(way_shown(way), text)
                self.assertEqual(numbers_of(way), (1,) * many)

    def test_deep_texts_as_they_stand(self):
        self.assertEqual(way_shown(leaning(67, "less", True)), "(" * 65 + "1" + " - 1)" * 65 + " - 1")
        self.assertEqual(way_shown(leaning(67, "plus", False)), "1 + (" * 65 + "1 + 1" + ")" * 65)

    def test_deep_texts_one_sign_off(self):
        for to_first in (True, False):
            text = way_shown(leaning(67, "times", to_first))
            self.assertLessEqual(len(text), 400)
            for edited in edits_of(text, "1 ()"):
                self.assertEqual(is_read(edited), is_a_ways_text(edited), edited)

    def test_signs_and_blanks_alone(self):
        for sign in (" ", "+", " + ", "0", "1 ", "1 + ", "- "):
            self.assertFalse(is_read(sign * (400 // len(sign))))


class GreatNumbers(unittest.TestCase):
    def test_of_each_length(self):
        for many in list(range(1, 200)) + [399, 400, 4299, 4300, 4301, 9000]:
            least, most = 10 ** (many - 1), 10 ** many - 1
            self.assertEqual(way_shown(least), "1" + "0" * (many - 1))
            self.assertEqual(way_shown(most), "9" * many)
            self.assertEqual(read_way("1" + "0" * (many - 1)), least)
            self.assertEqual(read_way("9" * many), most)

    def test_noughts_within_are_kept(self):
        for number in (10 ** 64 + 1, 10 ** 128 + 10 ** 64, 10 ** 130 + 7, 5 * 10 ** 200 + 30):
            self.assertEqual(way_shown(number), str(number))
            self.assertEqual(read_way(str(number)), number)

    def test_figures_in_their_order(self):
        figures = "".join(str(number) for number in range(1, 140))
        self.assertEqual(read_way(figures), int(figures))
        self.assertEqual(way_shown(int(figures)), figures)

    def test_within_a_way(self):
        great = 7 ** 200
        way = ("share", ("less", great, 3), great + 1)
        self.assertEqual(way_shown(way), f"({great} - 3) / {great + 1}")
        self.assertEqual(read_way(way_shown(way)), way)

    def test_a_told_worth_is_handed_on_as_a_way_and_as_its_text(self):
        worth = 999999
        for _ in range(5):
            row = worth
            for _ in range(7):
                row = ("times", row, worth)
            worth = worth_of(row)
        text = way_shown(worth)
        self.assertGreater(len(text), 100000)
        self.assertEqual(read_way(text), worth)
        self.assertEqual(read_way("3 - (" + text + " * 2)"), ("less", 3, ("times", worth, 2)))


class Keeping(unittest.TestCase):
    def test_what_is_handed_in_stays_and_is_answered_the_same(self):
        for way, text in PAIRS:
            kept = copy.deepcopy(way)
            self.assertEqual([way_shown(way) for _ in range(3)], [text] * 3)
            self.assertEqual([read_way(text) for _ in range(3)], [kept] * 3)
            self.assertEqual(way, kept)

    def test_a_refusal_leaves_nothing_behind(self):
        for text in ("(1 + 2", "1 + 2)", "((((", "1 + "):
            self.assertFalse(is_read(text))
            self.assertEqual(read_way("1 + 2"), ("plus", 1, 2))
            self.assertFalse(is_read(text))


if __name__ == "__main__":
    unittest.main()

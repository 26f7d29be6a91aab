"""The interface's refusals."""

import unittest

from ledtowish.errors import NoAsk, NoText, NoWay, WishError


class Refusals(unittest.TestCase):
    def test_each_is_a_wish_error_and_a_value_error(self):
        self.assertTrue(issubclass(WishError, ValueError))
        for kind in (NoText, NoAsk, NoWay):
            self.assertTrue(issubclass(kind, WishError), kind)
            self.assertIsNot(kind, WishError)

    def test_none_of_the_three_stands_under_another(self):
        kinds = (NoText, NoAsk, NoWay)
        for one in kinds:
            for other in kinds:
                self.assertEqual(issubclass(one, other), one is other, (one, other))

    def test_no_way_keeps_its_word(self):
        for word in ("plus", "less", "times", "share"):
            self.assertEqual(NoWay(word).word, word)

    def test_each_keeps_the_word_it_was_made_of(self):
        one, other = NoWay("less"), NoWay("share")
        self.assertEqual((one.word, other.word), ("less", "share"))

    def test_no_text_and_no_ask_are_made_of_a_text(self):
        for kind in (WishError, NoText, NoAsk):
            self.assertEqual(str(kind("why not")), "why not")

    def test_they_are_raised_and_taken(self):
        for made in (NoText("a"), NoAsk("b"), NoWay("less")):
            with self.assertRaises(WishError) as taken:
                raise made
            self.assertIs(taken.exception, made)


if __name__ == "__main__":
    unittest.main()

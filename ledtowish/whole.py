"""The desk: lines that ask, and rows that answer."""

from ledtowish.errors import NoAsk
from ledtowish.every import all_forms, many_forms
from ledtowish.forms import are_twins, way_of
from ledtowish.met import met_at_all
from ledtowish.nearest import nearest
from ledtowish.texts import figures_of, is_figures, number_of, read_way, way_shown
from ledtowish.ways import numbers_of, worth_of

GREATEST = 1000000
MOST_NUMBERS = 4


def ways_rows(numbers, wish):
    return [way_shown(way_of(form)) for form in all_forms(numbers, wish)]


def many_rows(numbers, wish):
    return [figures_of(many_forms(numbers, wish))]


def near_rows(numbers, wish):
    worth, form, deeds = nearest(numbers, wish)
    return [figures_of(worth) + " " + figures_of(deeds), way_shown(way_of(form))]


def met_rows(numbers):
    met = [figures_of(worth) for worth in met_at_all(numbers)]
    return [" ".join(met)] if met else []


def worth_rows(numbers, text):
    return [figures_of(worth_of(read_way(text)))]


def twins_rows(numbers, text):
    if text.count(";") != 1:
        raise NoAsk("twins are asked of two texts with one ; between")
    one, other = text.split(";")
    return yes_or_no(are_twins(read_way(one), read_way(other)))


def uses_rows(numbers, text):
    used = numbers_of(read_way(text))
    return yes_or_no(all([used.count(number) <= numbers.count(number) for number in used]))


def yes_or_no(truth):
    return ["yes" if truth else "no"]


WITH_WISH = {"ways": ways_rows, "many": many_rows, "near": near_rows}
WITH_TEXT = {"worth": worth_rows, "twins": twins_rows, "uses": uses_rows}


def told_numbers(words):
    if len(words) > MOST_NUMBERS:
        raise NoAsk("more than four numbers")
    return tuple([told_number(word) for word in words])


def told_wish(words):
    if len(words) != 1:
        raise NoAsk("a wish is one number")
    return told_number(words[0])


def told_number(word):
    if not is_figures(word) or word.startswith("0"):
        raise NoAsk("no number, or one with a nought ahead")
    number = number_of(word)
    if number > GREATEST:
        raise NoAsk("a number is too great")
    return number


class Desk:
    """Keeps told numbers and a wish, and answers lines."""

    def __init__(self):
        self.numbers = ()
        self.wish = None

    def ask(self, line):
        """The rows that answer a line; what is refused changes nothing."""
        if line.splitlines() != [line]:
            raise NoAsk("an empty line, or one with a line end")
        word, *words = line.split(" ")
        if word == "numbers":
            self.numbers = told_numbers(words)
            return []
        if word == "wish":
            self.wish = told_wish(words)
            return []
        if word in WITH_TEXT and words:
            answer = WITH_TEXT[word]
            return answer(self.numbers, " ".join(words))
        return self.answered(line)

    def answered(self, line):
        """The rows that answer a line of one word."""
        if line == "met":
            return met_rows(self.numbers)
        if line not in WITH_WISH:
            raise NoAsk("no such line")
        if self.wish is None:
            raise NoAsk("no wish is told")
        answer = WITH_WISH[line]
        return answer(self.numbers, self.wish)

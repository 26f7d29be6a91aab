"""Ways: their worths, their deeds and their numbers."""

from ledtowish.errors import NoWay


def plus(first, second):
    return first + second


def less(first, second):
    if first <= second:
        raise NoWay("less")
    return first - second


def times(first, second):
    return first * second


def share(first, second):
    if first % second != 0:
        raise NoWay("share")
    return first // second


DEEDS = {"plus": plus, "less": less, "times": times, "share": share}


def steps_of(way):
    """The numbers and words of a way, each word behind both of its ways.

    Kept in lists, not by a call within a call: a way may be nested deeper
    than calls may be.
    """
    steps = []
    waiting = [way]
    while waiting:
        part = waiting.pop()
        if isinstance(part, tuple):
            word, first, second = part
            steps.append(word)
            waiting.append(first)
            waiting.append(second)
        else:
            steps.append(part)
    # They came from the last to the first, each word ahead of its ways.
    return steps[::-1]


def come_of(steps, of_number, of_word):
    """What steps come to: a number to of_number(number), a word to
    of_word(word, first, second), of what its two ways came to."""
    come = []
    for step in steps:
        if isinstance(step, str):
            second = come.pop()
            first = come.pop()
            come.append(of_word(step, first, second))
        else:
            come.append(of_number(step))
    return come[0]


def number_itself(number):
    return number


def worth_by(word, first, second):
    """The worth of two worths and a word, or NoWay."""
    deed = DEEDS[word]
    return deed(first, second)


def worth_of(way):
    """The worth of a way, or NoWay."""
    return come_of(steps_of(way), number_itself, worth_by)


def deeds_between(firsts, seconds):
    """All (word, first, second, worth) by words that one worth of each row lets."""
    deeds = []
    for first in firsts:
        for second in seconds:
            for word in DEEDS:
                try:
                    deeds.append((word, first, second, worth_by(word, first, second)))
                except NoWay:
                    continue
    return deeds


def deeds_of(way):
    """How many words a way has."""
    return len([step for step in steps_of(way) if isinstance(step, str)])


def numbers_of(way):
    """The numbers of a way, from the first to the last."""
    return tuple([step for step in steps_of(way) if not isinstance(step, str)])

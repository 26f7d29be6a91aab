"""Ways: their worths, their deeds and their numbers."""

from ledtowish.errors import NoWay


def plus(first, second):
    return first + second


def less(first, second):
    if first <= second:
        raise NoWay("less")
    return first - second


def times(first, second):
    return first * second


def share(first, second):
    if first % second != 0:
        raise NoWay("share")
    return first // second


DEEDS = {"plus": plus, "less": less, "times": times, "share": share}


def steps_of(way):
    """The numbers and words of a way, each word behind both of its ways.

    Kept in lists, not by a call within a call: a way may be nested deeper
    than calls may be.
    """
    steps = []
    waiting = [way]
    while waiting:
        part = waiting.pop()
        if isinstance(part, tuple):
            word, first, second = part
            steps.append(word)
            waiting.append(first)
            waiting.append(second)
        else:
            steps.append(part)
    # They came from the last to the first, each word ahead of its ways.
    return steps[::-1]


def worth_of(way):
    """The worth of a way, or NoWay."""
    worths = []
    for step in steps_of(way):
        if isinstance(step, str):
            second = worths.pop()
            first = worths.pop()
            deed = DEEDS[step]
            worths.append(deed(first, second))
        else:
            worths.append(step)
    return worths[0]


def deeds_of(way):
    """How many words a way has."""
    return len([step for step in steps_of(way) if isinstance(step, str)])


def numbers_of(way):
    """The numbers of a way, from the first to the last."""
    return tuple([step for step in steps_of(way) if not isinstance(step, str)])

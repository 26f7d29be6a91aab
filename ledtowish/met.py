"""What can be met by told numbers."""

from ledtowish.choices import choices_of, splits_of
from ledtowish.ways import deeds_between


def met_by(numbers, choice):
    """What can be met by ways that use just the chosen numbers, each once."""
    chosen = chosen_of(numbers, choice)
    return table_of(chosen).get((True,) * len(chosen), ())


def chosen_of(numbers, choice):
    return tuple([number for number, truth in zip(numbers, choice) if truth])


def met_at_all(numbers):
    """What can be met by any choice of the numbers."""
    return tuple(sorted({worth for row in table_of(numbers).values() for worth in row}))


def table_of(numbers):
    """What each choice of at least one number meets."""
    table = {}
    for choice in choices_of(len(numbers)):
        if any(choice):
            table[choice] = row_for(numbers, choice, table)
    return table


def row_for(numbers, choice, table):
    """The row of a choice, where the table has those of all choices within it."""
    chosen = chosen_of(numbers, choice)
    if len(chosen) == 1:
        # A number below 1 is no way, so nothing is met by it.
        return chosen if chosen[0] >= 1 else ()
    worths = set()
    for one, rest in splits_of(choice):
        for word, first, second, worth in deeds_between(table[one], table[rest]):
            worths.add(worth)
    return tuple(sorted(worths))


def table_shown(numbers, table):
    """Whether a table is the right one of these numbers."""
    return table == table_of(numbers)

"""The nearest worth to a wish, and the fewest deeds."""

from ledtowish.errors import NoWay
from ledtowish.every import all_forms
from ledtowish.forms import way_of
from ledtowish.met import met_at_all, table_of
from ledtowish.ways import deeds_of


def nearest(numbers, wish):
    """The nearest worth that can be met, its first form of the fewest deeds, and how many deeds."""
    met = met_at_all(numbers)
    if len(met) == 0:
        raise NoWay("plus")
    # The first of several that are as good is taken: worths rise, so it is
    # the lesser one; forms are in order, so it is the first of them.
    worth = min(met, key=lambda one: abs(one - wish))
    form = min(all_forms(numbers, worth), key=deeds_of_form)
    return (worth, form, deeds_of_form(form))


def deeds_of_form(form):
    return deeds_of(way_of(form))


def fewest(numbers, wish):
    """How few deeds meet a wish, or None."""
    for deeds, row in enumerate(by_deeds(numbers)):
        if wish in row:
            return deeds
    return None


def by_deeds(numbers):
    """What can be met by just so many deeds, for each number of deeds from 0 on."""
    table = table_of(numbers)
    # A deed makes one out of two, so a choice is used up by one deed less than it has numbers.
    return tuple([met_with(table, deeds + 1) for deeds in range(len(numbers))])


def met_with(table, many):
    """What the choices of so many numbers meet together."""
    rows = [row for choice, row in table.items() if choice.count(True) == many]
    return tuple(sorted({worth for row in rows for worth in row}))

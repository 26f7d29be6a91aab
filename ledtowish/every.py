"""All forms that meet a wish."""

from ledtowish.choices import splits_of
from ledtowish.forms import joined, order_of
from ledtowish.met import table_of
from ledtowish.ways import deeds_between


def all_forms(numbers, wish):
    """All let forms of told numbers that have the wish's worth, in order."""
    table = table_of(numbers)
    found = {}
    for choice in table:
        found.update(forms_by(table, choice, wish))
    return [found[order] for order in sorted(found)]


def many_forms(numbers, wish):
    """How many let forms of told numbers have the wish's worth."""
    return len(all_forms(numbers, wish))


def forms_by(table, choice, worth):
    """The forms with a worth that use just a choice, each under its order."""
    if worth not in table[choice]:
        return {}
    if len([truth for truth in choice if truth]) == 1:
        return {order_of(worth): worth}
    found = {}
    for one, rest in splits_of(choice):
        for word, first, second, come in deeds_between(table[one], table[rest]):
            if come == worth:
                found.update(joined_by(word, forms_by(table, one, first), forms_by(table, rest, second)))
    return found


def joined_by(word, firsts, seconds):
    """Each first joined to each second by a word, under its order."""
    found = {}
    for first in firsts.values():
        for second in seconds.values():
            form = joined(word, first, second)
            found[order_of(form)] = form
    return found

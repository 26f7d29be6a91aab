"""Rows of told numbers that meet a wish, or have just so many forms of it."""

from ledtowish.every import many_forms
from ledtowish.met import met_at_all


def rows_that_meet(many, greatest, wish):
    """The rows of so many numbers that meet a wish, in order."""
    return [row for row in rows_of(many, greatest) if wish in met_at_all(row)]


def rows_with(many, greatest, wish, forms):
    """The rows of so many numbers that have just so many forms of a wish, in order."""
    return [row for row in rows_of(many, greatest) if many_forms(row, wish) == forms]


def rows_of(many, greatest):
    """All rows of so many numbers from 1 to the greatest, none falling, in order."""
    rows = [()]
    for at in range(many):
        rows = [row + (number,) for row in rows for number in range(max(row, default=1), greatest + 1)]
    return rows

"""Signs put between the numbers of a row."""

from ledtowish.errors import NoWay

SIGNS = ("+", "-", "*")
FIGURE_SIGNS = ("", "+", "-")


def plus(done, side, last, number):
    return (done + side * last, 1, number)


def less(done, side, last, number):
    return (done + side * last, -1, number)


def times(done, side, last, number):
    return (done, side, last * number)


def together(done, side, last, number):
    return (done, side, int(str(last) + str(number)))


# What becomes of (done, side, last) by a sign and a number: done is the worth
# of all that is closed, last what may still grow, side 1 or -1 as it counts.
PUT = {"+": plus, "-": less, "*": times, "": together}


def ways_between(row, signs, wish):
    """All ways to put signs between the numbers that meet the wish, in the signs' order."""
    ways = [((), (0, 1, sum(row[:1])))]
    for number in row[1:]:
        ways = [(put + (sign,), put_next(sign, come, number)) for put, come in ways for sign in signs]
    return [put for put, (done, side, last) in ways if done + side * last == wish]


def put_next(sign, come, number):
    done, side, last = come
    put = PUT[sign]
    return put(done, side, last, number)


def signs_many(row, wish):
    """In how many ways a wish is met by plus, less and times."""
    return len(signs_all(row, wish))


def signs_all(row, wish):
    """All ways in which a wish is met by plus, less and times, in order."""
    return ways_between(row, SIGNS, wish)


def signs_at(row, wish, place):
    """The way with a number among all of signs_all, or NoWay."""
    ways = signs_all(row, wish)
    check_place(place, len(ways))
    return ways[place]


def check_place(place, many):
    if place < 0 or place >= many:
        raise NoWay("plus")


def figures_all(row, wish):
    """All ways in which a wish is met by putting together, plus and less, in order."""
    return ways_between(row, FIGURE_SIGNS, wish)


def sides_many(row, wish):
    """In how many ways a wish is met by plus and less alone."""
    return sums_behind(row)[0].get(wish - sum(row[:1]), 0)


def sides_at(row, wish, place):
    """The way with a number among those by plus and less alone, or NoWay."""
    sums = sums_behind(row)
    lacking = wish - sum(row[:1])
    check_place(place, sums[0].get(lacking, 0))
    signs = []
    for number, behind in zip(row[1:], sums[1:]):
        by_plus = behind.get(lacking - number, 0)
        if place < by_plus:
            signs.append("+")
            lacking -= number
        else:
            signs.append("-")
            lacking += number
            place -= by_plus
    return tuple(signs)


def sides_met(row):
    """All wishes that are met by plus and less alone, rising."""
    return tuple([sum(row[:1]) + come for come in sorted(sums_behind(row)[0])])


def sums_behind(row):
    """For each number what comes, by plus and less, of those behind it, and in how many ways.

    Counted from the last number on, as the ways themselves are too many to go through.
    """
    sums = [{0: 1}]
    for number in row[:0:-1]:
        sums.append(with_either_sign(sums[-1], number))
    return sums[::-1]


def with_either_sign(many, number):
    more = {}
    for come, ways in many.items():
        for side in (1, -1):
            put = come + side * number
            more[put] = more.get(put, 0) + ways
    return more

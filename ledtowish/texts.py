"""Ways written as texts and read from them."""

from ledtowish.errors import NoText
from ledtowish.ways import come_of, steps_of

SIGNS = {"plus": " + ", "less": " - ", "times": " * ", "share": " / "}
FIGURES = "0123456789"


def figures_of(number):
    """A number from 1 on, in figures.

    Done by pieces of 64 figures, as Python's own str refuses numbers of
    some thousand figures.
    """
    pieces = []
    while number >= 10 ** 64:
        number, piece = divmod(number, 10 ** 64)
        pieces.append(str(piece).zfill(64))
    pieces.append(str(number))
    return "".join(pieces[::-1])


def number_of(figures):
    """The number that figures tell; by pieces, as figures_of does it."""
    if figures.startswith("0"):
        raise NoText("a number has a nought ahead")
    first = len(figures) % 64
    number = int("0" + figures[:first])
    for at in range(first, len(figures), 64):
        number = number * 10 ** 64 + int(figures[at:at + 64])
    return number


def way_shown(way):
    """A way's text."""
    whole = come_of(steps_of(way), figures_of, in_brackets)
    return whole[1:-1] if isinstance(way, tuple) else whole


def in_brackets(word, first, second):
    return "(" + first + SIGNS[word] + second + ")"


def read_way(text):
    """The way that a text tells, or NoText."""
    if is_figures(text):
        return number_of(text)
    held = []
    # With brackets about the whole, too, each word is read in the same manner.
    for piece in pieces_of("(" + text + ")"):
        if piece == ")":
            held[-4:] = [way_closed(held)]
        else:
            held.append(piece)
    if len(held) != 1:
        raise NoText("brackets do not match")
    return held[0]


def is_figures(text):
    return text != "" and figures_end(text, 0) == len(text)


def figures_end(text, at):
    """The first place from a place on where no figure stands."""
    while at < len(text) and text[at] in FIGURES:
        at += 1
    return at


def pieces_of(text):
    """The brackets, the words and the numbers of a text, in their order."""
    pieces = []
    at = 0
    while at < len(text):
        piece, at = piece_at(text, at)
        pieces.append(piece)
    return pieces


def piece_at(text, at):
    """The piece that begins at a place, and the place behind it."""
    if text[at] in "()":
        return text[at], at + 1
    if text[at] in FIGURES:
        end = figures_end(text, at)
        return number_of(text[at:end]), end
    for word, sign in SIGNS.items():
        if text[at:at + 3] == sign:
            return word, at + 3
    raise NoText("neither a number nor a bracket nor a sign between blanks")


def way_closed(held):
    """The way of the last four pieces, which a closing bracket stands behind."""
    if len(held) < 4:
        raise NoText("too little stands ahead of a closing bracket")
    bracket, first, word, second = held[-4:]
    if bracket != "(" or not is_word(word) or not is_way(first) or not is_way(second):
        raise NoText("brackets stand about what is no way with a word")
    return (word, first, second)


def is_word(piece):
    return isinstance(piece, str) and piece != "("


def is_way(piece):
    return not isinstance(piece, str)

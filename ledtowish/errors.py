"""The refusals."""


class WishError(ValueError):
    """Any refusal."""


class NoText(WishError):
    """A text that is no way's text."""


class NoAsk(WishError):
    """A line that asks nothing."""


class NoWay(WishError):
    """A way without a worth; word is the way's word that has none."""

    def __init__(self, word):
        self.word = word

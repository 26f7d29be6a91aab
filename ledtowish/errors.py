"""The refusals."""


class WishError(ValueError):
    """Any refusal."""


class NoText(WishError):
    """A text that is no way's text."""


class NoAsk(WishError):
    """A line that asks nothing."""


class NoWay(WishError):
    """A way that has no worth, or that is not there; word is the word it fails at."""

    def __init__(self, word):
        self.word = word

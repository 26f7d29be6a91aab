"""Choices of told numbers: tuples of truths, one truth for each number."""


def choices_of(many):
    """All choices out of so many numbers, each behind all that lie within it."""
    choices = [()]
    for at in range(many):
        choices = [choice + (truth,) for choice in choices for truth in (False, True)]
    return choices


def splits_of(choice):
    """All (one, rest) that part a choice into two, neither of them of none."""
    splits = [((), ())]
    for truth in choice:
        ends = ((True, False), (False, True)) if truth else ((False, False),)
        splits = [(one + (mine,), rest + (others,)) for one, rest in splits for mine, others in ends]
    return [(one, rest) for one, rest in splits if any(one) and any(rest)]

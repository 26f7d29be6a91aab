"""Forms: what twins have in common."""

from ledtowish.errors import NoWay
from ledtowish.ways import come_of, number_itself, steps_of, worth_of

KINDS = {"plus": "sum", "less": "sum", "times": "product", "share": "product"}
TURNED = ("less", "share")
PUT = {"sum": "plus", "product": "times"}
TAKEN = {"sum": "less", "product": "share"}
RANKS = {"sum": 2, "product": 3}


def form_of(way):
    """The form of a way, with a worth or without."""
    return come_of(steps_of(way), number_itself, joined)


def joined(word, first, second):
    """The form of a word and of the forms of its two ways."""
    kind = KINDS[word]
    more, off = parts_for(kind, first)
    put, taken = parts_for(kind, second)
    if word in TURNED:
        put, taken = taken, put
    return (kind, in_order(more + put), in_order(off + taken))


def parts_for(kind, form):
    """The more and off that a form brings into one of a kind."""
    if is_of(kind, form):
        return form[1], form[2]
    return (form,), ()


def is_of(kind, form):
    return isinstance(form, tuple) and form[0] == kind


def in_order(parts):
    return tuple(sorted(parts, key=order_of))


def order_of(form):
    """A form as one flat tuple of numbers; these are in order as the forms are.

    A number has 1 ahead of it, a sum or a product its rank; 0, less than all
    of these, ends more and ends off, so that a row that begins another one is
    ahead of it. Flat, so that it may be a key however deep the form is.
    """
    order = []
    waiting = [form]
    while waiting:
        part = waiting.pop()
        if part is None:
            order.append(0)
        elif isinstance(part, tuple):
            kind, more, off = part
            order.append(RANKS[kind])
            waiting.append(None)
            waiting.extend(off[::-1])
            waiting.append(None)
            waiting.extend(more[::-1])
        else:
            order.append(1)
            order.append(part)
    return tuple(order)


def are_twins(one, other):
    """Whether two ways have the same form."""
    return order_of(form_of(one)) == order_of(form_of(other))


def way_of(form):
    """The way that is told of a let form."""
    return come_of(steps_of_form(form), number_itself, way_with)


def way_with(word, first, second):
    return (word, first, second)


def steps_of_form(form):
    """The steps of the way that is told of a form, as steps_of tells a way's."""
    steps = []
    waiting = [form]
    while waiting:
        part = waiting.pop()
        if isinstance(part, tuple):
            waiting.extend(unfolded(part)[::-1])
        else:
            steps.append(part)
    return steps


def unfolded(form):
    """The parts of a sum or a product, a word behind each but the first."""
    kind, more, off = form
    row = [more[0]]
    for part in more[1:]:
        row.append(part)
        row.append(PUT[kind])
    for part in off:
        row.append(part)
        row.append(TAKEN[kind])
    return row


def form_let(form):
    """Whether a form is let."""
    groups = []
    waiting = [form]
    while waiting:
        part = waiting.pop()
        if is_group(part):
            groups.append(part)
            waiting.extend(part[1] + part[2])
        elif not is_number(part):
            return False
    return all([is_kept(group) for group in groups]) and has_worth(way_of(form))


def is_group(form):
    if not isinstance(form, tuple) or len(form) != 3:
        return False
    kind, more, off = form
    return kind in ("sum", "product") and isinstance(more, tuple) and isinstance(off, tuple)


def is_number(form):
    return isinstance(form, int) and not isinstance(form, bool) and form >= 1


def is_kept(group):
    """Whether a sum or a product has parts as it should, whatever their worths."""
    kind, more, off = group
    if len(more) == 0 or len(more) + len(off) < 2:
        return False
    if any([is_of(kind, part) for part in more + off]):
        return False
    return is_in_order(more) and is_in_order(off)


def is_in_order(parts):
    orders = [order_of(part) for part in parts]
    return orders == sorted(orders)


def has_worth(way):
    # A part of a let form has a worth just where its way has one: what is
    # taken off or shared step by step stays whole and above 0 to the last.
    try:
        worth_of(way)
    except NoWay:
        return False
    return True

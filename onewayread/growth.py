"""What a wire carries: lists that grow, and lists that shrink."""

from onewayread.checks import is_number
from onewayread.errors import InvalidNumber
from onewayread.falls import Remains
from onewayread.pivots import inverse
from onewayread.wires import check_span, check_wire, rows_between

MOST_CHOICES = 64


def check_choices(choices):
    """Raises InvalidNumber for what is no number of choices from 1 to 64."""
    if not is_number(choices, 1, MOST_CHOICES):
        raise InvalidNumber()


def rows_checked(wire, span, choices):
    """The rows between the met states of a wire; raises an error for what is wrong."""
    check_wire(wire)
    check_span(span)
    check_choices(choices)
    return rows_between(wire, span)


def is_list_from(thing, many, low):
    """Tells whether something is a list or tuple of so many integers from low on."""
    if not isinstance(thing, (list, tuple)) or len(thing) != many:
        return False
    return all([isinstance(item, int) and not isinstance(item, bool) and item >= low for item in thing])


def gains(rows, choices, numbers):
    """By places: by how much the numbers to which rows lead are more than choices times the number."""
    sums = [sum([many * number for many, number in zip(row, numbers)]) for row in rows]
    return [total - choices * number for total, number in zip(sums, numbers)]


def is_growing(wire, span, choices, thing):
    """Tells whether something is a list that grows."""
    rows = rows_checked(wire, span, choices)
    if not is_list_from(thing, len(rows), 0):
        return False
    return any([number > 0 for number in thing]) and all([gain >= 0 for gain in gains(rows, choices, thing)])


def is_shrinking(wire, span, choices, thing):
    """Tells whether something is a list that shrinks."""
    rows = rows_checked(wire, span, choices)
    return is_list_from(thing, len(rows), 1) and all([gain < 0 for gain in gains(rows, choices, thing)])


def losses(rows, choices):
    """The matrix of what each place loses: choices times itself, less what rows bring."""
    return [[(choices if at == goal else 0) - many for goal, many in enumerate(row)] for at, row in enumerate(rows)]


def shrinks(wire, span, choices):
    """Some list that shrinks, or None if none does."""
    rows = rows_checked(wire, span, choices)
    told = inverse(losses(rows, choices))
    if told is None:
        return None
    # It loses the divisor, that is above 0, at each place.
    matrix, _ = told
    return [sum(row) for row in matrix]


def grows(wire, span, choices):
    """The list that remains of the first top of which not all is 0, or None if no list grows."""
    rows = rows_checked(wire, span, choices)
    if inverse(losses(rows, choices)) is not None:
        return None
    remains = Remains(rows, choices)
    top = 1
    while True:
        found = remains.of_top(top)
        if max(found) > 0:
            return found
        top = 2 * top

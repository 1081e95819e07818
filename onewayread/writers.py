"""Writers: looms that turn free choices into texts that a wire lets, and back."""

from onewayread.checks import LAST_STATE, check_text, first_wrong, is_number
from onewayread.errors import InvalidChoice, InvalidText, LimitExceeded, NothingLeft
from onewayread.growth import check_choices, grows
from onewayread.looks import look
from onewayread.looms import MOST_ARCS, Loom, leaving, met
from onewayread.rows import sure
from onewayread.splits import made_writer
from onewayread.wires import check_span, check_wire, end_in, goals_of_signs

MOST_WORTH = 64
MOST_WRITTEN = 240


def writer(wire, span, choices):
    """Some writer of so many choices, each in span signs, for a wire."""
    worths = grows(wire, span, choices)
    if worths is None:
        raise NothingLeft("writer")
    if sum(worths) > MOST_WORTH:
        raise LimitExceeded(MOST_WORTH)
    if sum(worths) * choices > MOST_ARCS:
        raise LimitExceeded(MOST_ARCS)
    return made_writer(wire, span, choices, worths)


def is_regular(loom, span, choices):
    """Tells whether a loom has all states up to its greatest one, met and with so many arcs, of span signs."""
    greatest = max([max(state, goal) for state, _, goal in loom.arcs])
    if met(loom) != list(range(greatest + 1)):
        return False
    many = all([len(leaving(loom, state)) == choices for state in range(greatest + 1)])
    return many and all([len(word) == span for _, word, _ in loom.arcs])


def is_carried(wire, loom, places):
    """Tells whether places are states of a wire, with a row from place to place for each arc of a loom."""
    states = met(loom)
    if len(places) != len(states) or not all([is_number(place, 0, LAST_STATE) for place in places]):
        return False
    table = goals_of_signs(wire)
    rows = all([end_in(table, places[state], word) == places[goal] for state, word, goal in loom.arcs])
    return rows and places[0] in met(wire)


def is_writer(wire, span, choices, thing):
    """Tells whether something is a writer (loom, places)."""
    check_wire(wire)
    check_span(span)
    check_choices(choices)
    if not isinstance(thing, tuple) or len(thing) != 2:
        return False
    loom, places = thing
    if not isinstance(loom, Loom) or not isinstance(places, tuple) or loom.signs != wire.signs:
        return False
    return is_regular(loom, span, choices) and is_carried(wire, loom, places) and look(loom) is not None


def check_numbers(numbers, most, last):
    """Raises InvalidChoice for what is no list or tuple of at most so many numbers from 0 to the last one."""
    at = first_wrong(numbers, 0, most, 0, last)
    if at is not None:
        raise InvalidChoice(at)


def written(made, numbers):
    """The text that a writer writes for some choices."""
    loom, _ = made
    check_numbers(numbers, MOST_WRITTEN, len(leaving(loom, 0)) - 1)
    state = 0
    line = []
    for number in numbers:
        _, word, state = loom.arcs[leaving(loom, state)[number]]
        line.append(word)
    return "".join(line)


def read_back(made, text):
    """The choices that are sure for somebody who has seen a text of whole words, or None if nothing reads so."""
    loom, _ = made
    check_text(loom.signs, text)
    if len(text) % len(loom.arcs[0][1]) != 0:
        raise InvalidText()
    row = sure(loom, 0, text)
    if row is None:
        return None
    return [leaving(loom, loom.arcs[number][0]).index(number) for number in row]

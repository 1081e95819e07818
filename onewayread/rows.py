"""Rows of arcs: their texts, the rows that read a text, and what is sure of those that cover it."""

from onewayread.checks import check_state, check_text, is_number, is_sequence
from onewayread.errors import InvalidRow, LimitExceeded

MOST_ITEMS = 2000
MOST_READINGS = 200


def first_misfit(loom, state, thing):
    """None for a row from a state, else where it fails: -1, or the index of an item."""
    if not is_sequence(thing, 0, MOST_ITEMS):
        return -1
    place = state
    for at, number in enumerate(thing):
        if not is_number(number, 0, len(loom.arcs) - 1) or loom.arcs[number][0] != place:
            return at
        place = loom.arcs[number][2]
    return None


def check_row(loom, state, row):
    """Raises UnknownState or InvalidRow for what is no row from a state."""
    check_state(state)
    at = first_misfit(loom, state, row)
    if at is not None:
        raise InvalidRow(at)


def is_row(loom, state, thing):
    """Tells whether something is a row from a state."""
    check_state(state)
    return first_misfit(loom, state, thing) is None


def text_of(loom, state, row):
    """The text of a row."""
    check_row(loom, state, row)
    return "".join([loom.arcs[number][1] for number in row])


def end_of(loom, state, row):
    """The state where a row ends."""
    check_row(loom, state, row)
    return loom.arcs[row[-1]][2] if row else state


def goes_on(text, at, arc, live, beyond):
    """Tells whether a row can take an arc at a place of the text and still come to its end."""
    _, word, goal = arc
    end = at + len(word)
    if end < len(text):
        return text.startswith(word, at) and goal in live[end]
    return (beyond or end == len(text)) and word.startswith(text[at:])


def live_arcs(loom, text, beyond):
    """For each place in the text, by states: the numbers of the arcs that lead to its end.

    A row may end behind the text where beyond is set. States without such arcs are left out.
    """
    live = [{} for _ in text]
    # From the end on: an arc leads to the end if one of those behind it does. So
    # there are never more steps than places and arcs, however many the rows are.
    for at in reversed(range(len(text))):
        for number, arc in enumerate(loom.arcs):
            if goes_on(text, at, arc, live, beyond):
                live[at].setdefault(arc[0], []).append(number)
    return live


def readings(loom, state, text):
    """The ascending list of all rows from a state that read a text."""
    check_state(state)
    check_text(loom.signs, text)
    if text == "":
        return [[]]
    live = live_arcs(loom, text, False)
    found = []
    row = []
    waiting = [(0, 0, number) for number in live[0].get(state, [])[::-1]]
    while waiting:
        # Each arc that waits begins one reading at least, and each another one.
        if len(found) + len(waiting) > MOST_READINGS:
            raise LimitExceeded(MOST_READINGS)
        kept, at, number = waiting.pop()
        del row[kept:]
        row.append(number)
        _, word, goal = loom.arcs[number]
        end = at + len(word)
        if end == len(text):
            found.append(list(row))
        else:
            waiting.extend([(kept + 1, end, other) for other in live[end][goal][::-1]])
    return found


def count(loom, state, text):
    """The number of the rows from a state that read a text."""
    check_state(state)
    check_text(loom.signs, text)
    ways = [{} for _ in range(len(text) + 1)]
    ways[0][state] = 1
    for at in range(len(text)):
        for place, word, goal in loom.arcs:
            if place in ways[at] and text.startswith(word, at):
                end = at + len(word)
                ways[end][goal] = ways[end].get(goal, 0) + ways[at][place]
    return sum(list(ways[len(text)].values()))


def sure(loom, state, text):
    """The longest list with which all rows begin that cover a text, or None without such rows."""
    check_state(state)
    check_text(loom.signs, text)
    if text == "":
        return []
    live = live_arcs(loom, text, True)
    if state not in live[0]:
        return None
    row = []
    at = 0
    place = state
    while at < len(text) and len(live[at][place]) == 1:
        number = live[at][place][0]
        row.append(number)
        _, word, place = loom.arcs[number]
        at += len(word)
    return row

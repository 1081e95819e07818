"""A slow and plain judge of writers, and wires for which writers have to be made."""

from onewayread.looms import Loom

from tests.plain_rests import plain_met
from tests.plain_wires import plain_end


def lined(*lines):
    """The wire in which arcs lead from each state to the ones that its line of digits tells."""
    return Loom("abcd", [(state, sign, int(goal)) for state, line in enumerate(lines)
                         for sign, goal in zip("abcd", line)])


# By the sum of the list that grows, and choices: the wire and the span.
SUMS = {
    (25, 8): (lined("1", "2", "3333", "4244", "0300"), 2),
    (29, 7): (lined("1", "2", "3", "5454", "5554", "0000"), 3),
    (40, 5): (lined("4", "2", "3333", "0000", "1"), 3),
    (50, 4): (lined("1", "2", "3", "4446", "5555", "0010", "56"), 2),
    (51, 4): (lined("1", "2", "3", "4", "5525", "6666", "7887", "0000", "180"), 2),
    (64, 2): (lined("1", "32", "3", "4", "5", "6666", "7777", "8888", "9999", "0000"), 1),
    (64, 3): (lined("5", "2", "3333", "4434", "0002", "565", "261"), 1),
    (65, 2): (lined("8", "2", "3", "4444", "5555", "6665", "7777", "0000", "1"), 1),
    (65, 3): (lined("5", "2222", "4333", "2444", "0000", "0151"), 1),
    (67, 3): (lined("1", "5", "3333", "4344", "5555", "0020"), 1),
}


def plain_writer_look(loom):
    """The look of a loom of words of one length: how many words long two unlike rows of one text may be, or None."""
    arcs = [arc for arc in loom.arcs if arc[0] in plain_met(loom)]
    pairs = {(one[2], other[2]) for at, one in enumerate(arcs) for beside, other in enumerate(arcs)
             if at != beside and one[:2] == other[:2]}
    behind = {}
    for state, word, goal in arcs:
        behind.setdefault(state, []).append((word, goal))
    many = 0
    while pairs:
        many += 1
        # There are not more pairs of states: longer rows come back to one.
        if many > 64 * 64:
            return None
        further = {(goal, end) for one, other in pairs for word, goal in behind.get(one, [])
                   for longer, end in behind.get(other, []) if word == longer}
        if further == pairs:
            return None
        pairs = further
    return many


def plain_is_writer(wire, span, choices, thing):
    """[80], condition by condition."""
    if thing.__class__ is not tuple or len(thing) != 2:
        return False
    loom, places = thing
    if loom.__class__ is not Loom or places.__class__ is not tuple or loom.signs != wire.signs:
        return False
    states = range(1 + max(max(state, goal) for state, _, goal in loom.arcs))
    if len(places) != len(states) or any(place.__class__ is not int or not 0 <= place <= 63 for place in places):
        return False
    if any([arc[0] for arc in loom.arcs].count(state) != choices or state not in plain_met(loom) for state in states):
        return False
    for state, word, goal in loom.arcs:
        if len(word) != span or plain_end(wire, places[state], word) != places[goal]:
            return False
    return places[0] in plain_met(wire) and plain_writer_look(loom) is not None


def plain_written(made, numbers):
    loom, _ = made
    state, text = 0, ""
    for number in numbers:
        _, word, state = [arc for arc in loom.arcs if arc[0] == state][number]
        text += word
    return text

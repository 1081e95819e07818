"""Looms: states, and arcs of words that lead from one state to another."""

from onewayread.checks import LAST_STATE, check_signs, check_state, is_number, is_sequence, is_word
from onewayread.errors import InvalidLoom

MOST_ARCS = 200


def is_arc(signs, thing):
    """Tells whether something is a tuple (state, word, next)."""
    if not isinstance(thing, tuple) or len(thing) != 3:
        return False
    state, word, goal = thing
    return is_number(state, 0, LAST_STATE) and is_word(signs, word) and is_number(goal, 0, LAST_STATE)


class Loom:
    """Signs, and a tuple of the arcs (state, word, next) in their order."""

    def __init__(self, signs, arcs):
        check_signs(signs)
        if not is_sequence(arcs, 1, MOST_ARCS):
            raise InvalidLoom("arcs", -1)
        for at, arc in enumerate(arcs):
            if not is_arc(signs, arc):
                raise InvalidLoom("arcs", at)
        self.signs = signs
        self.arcs = tuple([tuple(arc) for arc in arcs])

    def __eq__(self, other):
        return isinstance(other, Loom) and self.signs == other.signs and self.arcs == other.arcs


def leaving(loom, state):
    """The ascending list of the numbers of the arcs that leave a state."""
    check_state(state)
    return [number for number, arc in enumerate(loom.arcs) if arc[0] == state]


def met(loom):
    """The ascending list of the states that can be come to from 0."""
    seen = {0}
    waiting = [0]
    while waiting:
        place = waiting.pop()
        for state, _, goal in loom.arcs:
            if state == place and goal not in seen:
                seen.add(goal)
                waiting.append(goal)
    return sorted(seen)

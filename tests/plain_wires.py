"""Slow and plain searches over wires and their texts, to compare the program with."""

import functools
import itertools

from onewayread.looms import Loom

from tests.plain_books import texts_up_to
from tests.plain_rests import plain_met

NO_WIRES = [
    Loom("ab", [(0, "ab", 0)]), Loom("ab", [(0, "a", 0), (0, "a", 1)]), Loom("ab", [(0, "a", 0), (0, "a", 0)]),
    Loom("a", [(0, "a", 0), (7, "aa", 7)]), Loom("ab", [(0, "a", 0), (5, "b", 1), (5, "a", 3), (5, "b", 2)]),
    Loom("ab", [(0, "a", 1), (1, "a", 0), (1, "b" * 12, 0)]), Loom("abcd", [(63, "d", 63)] * 200),
]
FULL = Loom("ab", [(0, "a", 0), (0, "b", 0)])
GOLDEN = Loom("ab", [(0, "a", 0), (0, "b", 1), (1, "a", 0)])
# Nothing but the empty text: no arc leaves 0.
EMPTY = Loom("ab", [(1, "a", 0), (1, "b", 2), (2, "b", 2)])
# Just the texts "", "b" and "ba": state 2 has no arcs, and 9 is not met.
SHORT = Loom("ab", [(9, "a", 0), (0, "b", 5), (5, "a", 2), (9, "b", 9)])
WIRES = [FULL, GOLDEN, EMPTY, SHORT, Loom("a", [(0, "a", 0)]), Loom("a", [(0, "a", 1)]),
         Loom("abcd", [(0, "d", 0), (0, "a", 3), (3, "c", 63), (63, "b", 0), (63, "c", 63)])]


def plain_is_wire(thing):
    if thing.__class__ is not Loom:
        return False
    kinds = [(state, word) for state, word, _ in thing.arcs]
    return all(len(word) == 1 for _, word in kinds) and all(kinds.count(kind) == 1 for kind in kinds)


def some_wire(chance, most=5, signs=None):
    """A wire of few states, not all of them met, with any numbers and arcs in any order."""
    signs = signs or chance.choice(["a", "ab", "ab", "abc", "wxyz"])
    states = [0] + chance.sample(range(1, 64), chance.randint(0, most - 1))
    kinds = list(itertools.product(states, signs))
    kinds = chance.sample(kinds, chance.randint(1, len(kinds)))
    return Loom(signs, [(state, sign, chance.choice(states)) for state, sign in kinds][:200])


def great_wire(chance, many=64, signs="abcd", arcs=200):
    """A wire of many states that all are met, and lead to one another."""
    order = list(range(1, many))
    chance.shuffle(order)
    order = [0] + order
    table = {(state, chance.choice(signs)): goal for state, goal in zip(order, order[1:] + [0])}
    kinds = [kind for kind in itertools.product(range(many), signs) if kind not in table]
    for kind in chance.sample(kinds, min(len(kinds), arcs - many)):
        table[kind] = chance.randrange(many)
    made = [(state, sign, goal) for (state, sign), goal in table.items()]
    chance.shuffle(made)
    return Loom(signs, made)


def plain_end(wire, state, text):
    """Where the row ends that reads a text from a state, or None if there is none."""
    for sign in text:
        goals = [goal for begin, word, goal in wire.arcs if begin == state and word == sign]
        if not goals:
            return None
        state = goals[0]
    return state


def plain_texts(wire, state, length):
    """All (text, end) of rows of so many arcs from a state."""
    found = [("", state)]
    for _ in range(length):
        found = [(text + word, goal) for text, end in found for begin, word, goal in wire.arcs if begin == end]
    return found


def plain_lets(wire, length):
    """The texts of at most so many signs that a wire lets, shorter first."""
    return [text for text in texts_up_to(wire.signs, length) if plain_end(wire, 0, text) is not None]


def plain_endless(signs, bars, length):
    """The texts of at most so many signs that are allowed and can be gone on with for 70 signs more."""

    @functools.lru_cache(maxsize=None)
    def goes_on(end, many):
        if any(bar in end for bar in bars):
            return False
        return many == 0 or any(goes_on((end + sign)[-4:], many - 1) for sign in signs)

    def is_endless(text):
        return not any(bar in text for bar in bars) and goes_on(text[-4:], 70)

    return [text for text in texts_up_to(signs, length) if is_endless(text)]


def plain_same(one, other, begun=(0, 0)):
    """Tells by a walk over pairs of states whether the same texts can be read from both."""
    seen = [begun]
    for state, beside in seen:
        for sign in one.signs:
            pair = plain_end(one, state, sign), plain_end(other, beside, sign)
            if (pair[0] is None) != (pair[1] is None):
                return False
            if pair[0] is not None and pair not in seen:
                seen.append(pair)
    return True


def plain_parted(one, other, length):
    """The first text of at most so many signs that just one of two wires lets, or None."""
    for text in texts_up_to(one.signs, length):
        if (plain_end(one, 0, text) is None) != (plain_end(other, 0, text) is None):
            return text
    return None


def plain_fewest(wire):
    """The number of met states from which different texts can be read."""
    kept = []
    for state in plain_met(wire):
        if not any(plain_same(wire, wire, (state, other)) for other in kept):
            kept.append(state)
    return len(kept)


def is_in_order(wire):
    """Tells whether states are numbered as they are met, and arcs stand in their order."""
    arcs = sorted(wire.arcs, key=lambda arc: (arc[0], arc[1]))
    numbers = [0]
    for _, _, goal in arcs:
        if goal not in numbers:
            numbers.append(goal)
    return list(wire.arcs) == arcs and numbers == list(range(len(numbers)))


def plain_between(wire, span):
    """The rows between met states, counted one by one."""
    states = plain_met(wire)
    ends = {state: [end for _, end in plain_texts(wire, state, span)] for state in states}
    return [[ends[state].count(goal) for goal in states] for state in states]

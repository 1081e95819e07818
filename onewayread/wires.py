"""Wires: looms of single signs that each state has at most once, and the texts that they let."""

from onewayread.checks import check_signs, is_number, is_sequence, is_string_over
from onewayread.errors import InvalidBars, InvalidNumber, NotAWire, NothingLeft, Unlike
from onewayread.looms import Loom, met
from onewayread.texts import first_text, shorter_first

MOST_BARS = 8
LONGEST_BAR = 4
MOST_COUNTED = 300
MOST_SPAN = 8


def is_wire(thing):
    """Tells whether something is a loom of single signs, different ones on the arcs of each state."""
    if not isinstance(thing, Loom):
        return False
    single = all([len(word) == 1 for _, word, _ in thing.arcs])
    return single and len({(state, word) for state, word, _ in thing.arcs}) == len(thing.arcs)


def check_wire(wire):
    """Raises NotAWire for a loom that is none."""
    if not is_wire(wire):
        raise NotAWire()


def check_span(span):
    """Raises InvalidNumber for what is no number of signs from 1 to 8."""
    if not is_number(span, 1, MOST_SPAN):
        raise InvalidNumber()


def goals_of_signs(wire):
    """By (state, sign): where the arc with this sign leads."""
    return {(state, sign): goal for state, sign, goal in wire.arcs}


def end_in(table, place, text):
    """Where steps of signs lead from a place by a text, or None if they come to an end."""
    for sign in text:
        if (place, sign) not in table:
            return None
        place = table[(place, sign)]
    return place


def check_bars(signs, bars):
    """Raises InvalidLoom for what are no signs, and InvalidBars for what are no bars."""
    check_signs(signs)
    if not is_sequence(bars, 0, MOST_BARS):
        raise InvalidBars(-1)
    for at, bar in enumerate(bars):
        if not is_string_over(signs, bar, 1, LONGEST_BAR):
            raise InvalidBars(at)


def longest_end(known, text):
    """The longest end of a text that is among those known; the empty one has to be."""
    at = 0
    while text[at:] not in known:
        at += 1
    return text[at:]


def allowed_steps(signs, bars):
    """By beginnings of bars: for each sign that may follow there, the beginning in which the text then ends.

    No more of a text has to be known than the longest beginning of a bar in which it ends.
    """
    known = {bar[:at]: True for bar in bars for at in range(len(bar))}
    known[""] = True
    table = {}
    for begun in shorter_first(list(known)):
        longer = [(sign, begun + sign) for sign in signs]
        let = [(sign, text) for sign, text in longer if not any([text.endswith(bar) for bar in bars])]
        table[begun] = {sign: longest_end(known, text) for sign, text in let}
    return table


def endless(table):
    """The steps that can be gone on with for ever."""
    while True:
        kept = {place: {sign: goal for sign, goal in line.items() if goal in table} for place, line in table.items()}
        left = {place: line for place, line in kept.items() if line}
        if len(left) == len(table):
            return kept
        table = left


def wire_of(signs, bars):
    """The least wire that lets the texts that can be gone on with for ever so that no bar stands in them."""
    check_bars(signs, bars)
    table = endless(allowed_steps(signs, bars))
    if "" not in table:
        raise NothingLeft("wire")
    numbers = {place: number for number, place in enumerate(shorter_first(list(table)))}
    arcs = [(numbers[place], sign, numbers[goal]) for place, line in table.items() for sign, goal in line.items()]
    return least(Loom(signs, arcs))


def classes_of(wire):
    """By met states: a number that is the same for those from which the same texts can be read."""
    states = met(wire)
    goals = goals_of_signs(wire)
    classes = {state: 0 for state in states}
    found = 1
    while True:
        # Where a state has no arc of a sign, nothing can be read behind it.
        keys = {}
        for state in states:
            behind = [classes[goals[(state, sign)]] if (state, sign) in goals else -1 for sign in wire.signs]
            keys[state] = (classes[state], *behind)
        numbers = {}
        for state in states:
            numbers.setdefault(keys[state], len(numbers))
        classes = {state: numbers[keys[state]] for state in states}
        if len(numbers) == found:
            return classes
        found = len(numbers)


def least(wire):
    """The wire with the fewest states that lets the same texts."""
    check_wire(wire)
    classes = classes_of(wire)
    goals = goals_of_signs(wire)
    states = {classes[state]: state for state in classes}
    numbers = {classes[0]: 0}
    order = [classes[0]]
    arcs = []
    while len(order) > 0:
        further = []
        for place in order:
            for sign in wire.signs:
                if (states[place], sign) in goals:
                    goal = classes[goals[(states[place], sign)]]
                    if goal not in numbers:
                        numbers[goal] = len(numbers)
                        further.append(goal)
                    arcs.append((numbers[place], sign, numbers[goal]))
        order = further
    if len(arcs) == 0:
        raise NothingLeft("wire")
    return Loom(wire.signs, arcs)


def parted(one, other):
    """None if two wires let the same texts, else the first text, shorter first, that just one lets."""
    check_wire(one)
    check_wire(other)
    if one.signs != other.signs:
        raise Unlike()
    table = goals_of_signs(one)
    beside = goals_of_signs(other)
    # A wire that does not let a text stands nowhere behind it: that is None.
    return first_text(one.signs, (0, 0),
                      lambda pair, sign: (table.get((pair[0], sign)), beside.get((pair[1], sign))),
                      lambda pair: (pair[0] is None) != (pair[1] is None))


def many_behind(wire, ways):
    """By states: how many rows lead there, one arc behind those that lead to the states of ways."""
    found = {}
    for state, _, goal in wire.arcs:
        if state in ways:
            found[goal] = found.get(goal, 0) + ways[state]
    return found


def ways_from(wire, state, length):
    """By states: how many rows of so many arcs lead there from a state."""
    ways = {state: 1}
    for _ in range(length):
        ways = many_behind(wire, ways)
    return ways


def many(wire, length):
    """The number of texts of so many signs that the wire lets."""
    check_wire(wire)
    if not is_number(length, 0, MOST_COUNTED):
        raise InvalidNumber()
    return sum(list(ways_from(wire, 0, length).values()))


def rows_between(wire, span):
    """For each met state, the list of the numbers of rows of so many arcs from there to each met state."""
    check_wire(wire)
    check_span(span)
    states = met(wire)
    lines = [ways_from(wire, state, span) for state in states]
    return [[ways.get(goal, 0) for goal in states] for ways in lines]

"""Ways along rests: their starts and steps, with the arcs that two rows take on them."""

from onewayread.checks import LAST_STATE, is_number
from onewayread.looms import met
from onewayread.rows import is_row


def arcs_by_state(loom):
    """For each state that arcs leave: these, as (number, word, next)."""
    table = {}
    for number, (state, word, goal) in enumerate(loom.arcs):
        table.setdefault(state, []).append((number, word, goal))
    return table


def starts(loom):
    """Each start as (rest, state, number, other): the arcs of the row behind and of the one ahead."""
    table = arcs_by_state(loom)
    found = []
    for state in met(loom):
        arcs = table.get(state, [])
        for number, word, goal in arcs:
            for other, longer, end in arcs:
                if number != other and longer.startswith(word):
                    found.append(((goal, end, longer[len(word):]), state, number, other))
    return found


def steps(table, rest):
    """Each step from a rest as (rest, number, turned): 1 if the row behind comes ahead by its arc."""
    behind, ahead, left = rest
    found = []
    for number, word, goal in table.get(behind, []):
        if left.startswith(word):
            found.append(((goal, ahead, left[len(word):]), number, 0))
        elif word.startswith(left):
            found.append(((ahead, goal, word[len(left):]), number, 1))
    return found


def explored(loom):
    """The steps of each rest that comes of starts, and its origin by the fewest steps.

    An origin is (rest, step), or (None, start). Rests of fewer steps stand first.
    """
    table = arcs_by_state(loom)
    origins = {}
    for start in starts(loom):
        origins.setdefault(start[0], (None, start))
    order = list(origins)
    ways = {}
    while len(ways) < len(order):
        rest = order[len(ways)]
        ways[rest] = steps(table, rest)
        for step in ways[rest]:
            if step[0] not in origins:
                origins[step[0]] = (rest, step)
                order.append(step[0])
    return ways, origins


def is_even(rest):
    """Tells whether the two rows of a rest have come together: they are a double."""
    return rest[0] == rest[1] and rest[2] == ""


def way_to(origins, rest):
    """The start, and the steps in their order, that lead to a rest."""
    line = []
    place, made = origins[rest]
    while place is not None:
        line.append(made)
        place, made = origins[place]
    return made, line[::-1]


def grown(behind, ahead, line):
    """The row behind and the one ahead, after two rows have taken steps."""
    rows = [list(behind), list(ahead)]
    for _, number, turned in line:
        rows[0].append(number)
        if turned == 1:
            rows = rows[::-1]
    return rows[0], rows[1]


def pair_at(origins, rest):
    """The tuple (state, row, other) of two rows that have a rest: the one behind, and the one ahead."""
    start, line = way_to(origins, rest)
    _, state, number, other = start
    row, longer = grown([number], [other], line)
    return state, row, longer


def is_pair(loom, thing):
    """Tells whether something is a tuple of a met state and two rows from it."""
    if not isinstance(thing, tuple) or len(thing) != 3:
        return False
    state, row, other = thing
    if not is_number(state, 0, LAST_STATE) or state not in met(loom):
        return False
    return is_row(loom, state, row) and is_row(loom, state, other)

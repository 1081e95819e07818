"""Look-ahead: rows that other ones cover, and rings, along which they are covered for ever."""

from onewayread.rows import MOST_ITEMS, end_of, is_row, text_of
from onewayread.ways import explored, grown, is_pair, pair_at, starts

# The roles of a row beside the other one of a rest.
BEHIND = 0
AHEAD = 1


def ending(ways):
    """The rests from which steps come to an end, each behind those to which its steps lead."""
    before = {rest: [] for rest in ways}
    for rest, line in ways.items():
        for step in line:
            before[step[0]].append(rest)
    open_steps = {rest: len(line) for rest, line in ways.items()}
    waiting = [rest for rest in ways if open_steps[rest] == 0]
    found = []
    while waiting:
        rest = waiting.pop()
        found.append(rest)
        for place in before[rest]:
            open_steps[place] -= 1
            if open_steps[place] == 0:
                waiting.append(place)
    return found


def lasting(ways):
    """The rests from which steps go on for ever, with the steps between them."""
    over = {rest: True for rest in ending(ways)}
    kept = [rest for rest in ways if rest not in over]
    return {rest: [step for step in ways[rest] if step[0] not in over] for rest in kept}


def most_arcs(ways, order):
    """By roles and rests: how many arcs a row can take yet, so that it is covered in the end.

    It is -1 if the row is never covered any more. The order is that of ending.
    """
    most = [{}, {}]
    for rest in order:
        for role in [BEHIND, AHEAD]:
            fewest = 0 if role == BEHIND or rest[2] == "" else -1
            gain = 1 if role == BEHIND else 0
            # A gain of one where the row is never covered makes 0: that is no arc either.
            counts = [gain + most[role ^ turned][goal] for goal, _, turned in ways[rest]]
            most[role][rest] = max([fewest] + counts)
    return most


def counted(loom):
    """The steps of all rests, and the most arcs by them; None if rows are covered for ever."""
    ways, _ = explored(loom)
    order = ending(ways)
    if len(order) < len(ways):
        return None
    return ways, most_arcs(ways, order)


def look(loom):
    """The greatest number of arcs of a covered row, or None if there is no greatest one."""
    told = counted(loom)
    if told is None:
        return None
    _, most = told
    return max([0] + [1 + most[role][start[0]] for start in starts(loom) for role in [BEHIND, AHEAD]])


def is_covered(loom, thing):
    """Tells whether something is a tuple (state, row, other) of which row is covered by other."""
    if not is_pair(loom, thing):
        return False
    state, row, other = thing
    if len(row) == 0 or len(other) == 0 or row[0] == other[0]:
        return False
    return text_of(loom, state, other).startswith(text_of(loom, state, row))


def longest_line(ways, most, rest, role):
    """The steps on which a row with this role takes the most arcs, and its role in the end."""
    line = []
    while most[role][rest] > 0 or (role == AHEAD and rest[2] != ""):
        gain = 1 if role == BEHIND else 0
        wanted = most[role][rest] - gain
        best = [step for step in ways[rest] if most[role ^ step[2]][step[0]] == wanted]
        line.append(best[0])
        rest, _, turned = best[0]
        role = role ^ turned
    return line, role


def longest_covered(loom):
    """Some covered row of the most arcs with one that covers it, or None if there is none."""
    told = counted(loom)
    if told is None:
        return None
    ways, most = told
    begun = starts(loom)
    counts = [(most[role][start[0]], at, role) for at, start in enumerate(begun) for role in [BEHIND, AHEAD]]
    if len(counts) == 0:
        return None
    _, at, role = max(counts)
    rest, state, number, other = begun[at]
    line, role = longest_line(ways, most, rest, role)
    row, longer = grown([number], [other], line)
    return (state, row, longer) if role == BEHIND else (state, longer, row)


def rest_of_round(ways):
    """An early rest among those that some steps lead round; each rest has to have a step."""
    order = list(ways)
    places = {rest: at for at, rest in enumerate(order)}
    # To go on to the earliest rest each time is bound to come to a round, and keeps near the starts.
    seen = set()
    path = []
    at = 0
    while at not in seen:
        seen.add(at)
        path.append(at)
        at = min([places[step[0]] for step in ways[order[at]]])
    return order[min(path[path.index(at):])]


def round_from(ways, rest):
    """The fewest steps that lead from a rest back to it; there have to be some."""
    origins = {}
    order = [rest]
    at = 0
    while rest not in origins:
        place = order[at]
        at += 1
        for step in ways[place]:
            if step[0] not in origins:
                origins[step[0]] = (place, step)
                order.append(step[0])
    place, step = origins[rest]
    line = [step]
    while place != rest:
        place, step = origins[place]
        line.append(step)
    return line[::-1]


def ring_at(origins, ways, rest):
    """The ring by the fewest steps to a rest, and the fewest ones round from there."""
    line = round_from(ways, rest)
    # Where the rows have changed their roles, a second time round brings them back.
    if sum([step[2] for step in line]) % 2 == 1:
        line = line + line
    return (*pair_at(origins, rest), *grown([], [], line))


def ring(loom):
    """Some ring, or None if there is a greatest number of arcs of a covered row."""
    ways, origins = explored(loom)
    ways = lasting(ways)
    found = []
    while len(ways) > 0:
        rest = rest_of_round(ways)
        told = ring_at(origins, ways, rest)
        if max([len(row) for row in told[1:]]) <= MOST_ITEMS:
            return told
        # Rows may not be so long: look for a ring that does without this rest.
        found.append(told)
        others = [place for place in ways if place != rest]
        ways = lasting({place: [step for step in ways[place] if step[0] != rest] for place in others})
    return found[0] if found else None


def is_round(loom, state, thing):
    """Tells whether something is a row that comes back to the state from which it goes."""
    return is_row(loom, state, thing) and end_of(loom, state, thing) == state


def is_ring(loom, thing):
    """Tells whether something is a tuple (state, row, other, again, more) that is a ring."""
    if not isinstance(thing, tuple) or len(thing) != 5 or not is_covered(loom, thing[:3]):
        return False
    state, row, other, again, more = thing
    end = end_of(loom, state, row)
    longer_end = end_of(loom, state, other)
    if not is_round(loom, end, again) or not is_round(loom, longer_end, more) or len(again) == 0:
        return False
    left = text_of(loom, state, other)[len(text_of(loom, state, row)):]
    return text_of(loom, end, again) + left == left + text_of(loom, longer_end, more)

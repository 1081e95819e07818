"""Rests: by what one row is ahead of another one, and whether rows of one text come together."""

from heapq import heappop, heappush

from onewayread.checks import LAST_STATE, LONGEST_WORD, is_number, is_string_over
from onewayread.rows import end_of, text_of
from onewayread.ways import arcs_by_state, explored, is_even, is_pair, pair_at, starts, steps


def rests(loom):
    """The ascending list of all rests that come of starts by steps."""
    ways, _ = explored(loom)
    return sorted(ways)


def one_way(loom):
    """Tells whether the loom has no double."""
    ways, _ = explored(loom)
    return not any([is_even(rest) for rest in ways])


class Search:
    """The cheapest ways to rests found so far: by the signs of the text, then by the arcs of both rows."""

    def __init__(self):
        self.costs = {}
        self.origins = {}
        self.queue = []

    def offer(self, rest, cost, origin):
        """Keeps a way to a rest if it is cheaper than those before."""
        if rest not in self.costs or cost < self.costs[rest]:
            self.costs[rest] = cost
            self.origins[rest] = origin
            heappush(self.queue, (cost, rest))


def double(loom):
    """None if the loom is one-way, else a tuple (state, one, other): a double of the shortest text."""
    table = arcs_by_state(loom)
    search = Search()
    for start in starts(loom):
        rest, _, _, other = start
        search.offer(rest, (len(loom.arcs[other][1]), 2), (None, start))
    while search.queue:
        cost, rest = heappop(search.queue)
        if is_even(rest):
            return pair_at(search.origins, rest)
        # A rest may wait several times: only the cheapest way to it goes on.
        if cost == search.costs[rest]:
            for step in steps(table, rest):
                further, _, turned = step
                signs = len(further[2]) if turned == 1 else 0
                search.offer(further, (cost[0] + signs, cost[1] + 1), (rest, step))
    return None


def is_double(loom, thing):
    """Tells whether something is a tuple (state, one, other) that is a double of the loom."""
    if not is_pair(loom, thing):
        return False
    state, one, other = thing
    if list(one) == list(other) or end_of(loom, state, one) != end_of(loom, state, other):
        return False
    return text_of(loom, state, one) == text_of(loom, state, other)


def closed(loom):
    """The list of all rests if it is closed, else None."""
    found = rests(loom)
    return None if any([is_even(rest) for rest in found]) else found


def is_rest(signs, thing):
    """Tells whether something has the form of a rest: two states and a text of at most 12 signs."""
    if not isinstance(thing, tuple) or len(thing) != 3:
        return False
    behind, ahead, left = thing
    states = is_number(behind, 0, LAST_STATE) and is_number(ahead, 0, LAST_STATE)
    return states and is_string_over(signs, left, 0, LONGEST_WORD)


def is_closed(loom, thing):
    """Tells whether something is a list or tuple of rests with all starts, all its steps, and no even rest."""
    if not isinstance(thing, (list, tuple)):
        return False
    if not all([is_rest(loom.signs, item) and not is_even(item) for item in thing]):
        return False
    told = {item: True for item in thing}
    if not all([start[0] in told for start in starts(loom)]):
        return False
    table = arcs_by_state(loom)
    for rest in told:
        if not all([step[0] in told for step in steps(table, rest)]):
            return False
    return True

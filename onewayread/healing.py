"""Healing: when a reader of a plain full book that has slipped comes right again, reading what a wire lets."""

from onewayread.checks import LAST_STATE, LONGEST_TEXT, is_number, is_string_over
from onewayread.errors import Unlike
from onewayread.looms import met
from onewayread.readers import check_plain_full, pair_behind, standings, steps_of_signs
from onewayread.wires import check_wire, end_in, goals_of_signs


def check_both(a_book, wire):
    """Raises an error for what is no plain full book, no wire, or has other signs."""
    check_plain_full(a_book)
    check_wire(wire)
    if a_book.signs != wire.signs:
        raise Unlike()


class Slips:
    """Pairs of different standings, each with the met states from which a row keeps them apart.

    The states are the bits of an integer; rows of more and more arcs are looked at.
    """

    def __init__(self, a_book, wire):
        order = sorted(standings(a_book))
        table = steps_of_signs(a_book)
        self.pairs = [(one, other) for at, one in enumerate(order) for other in order[at + 1:]]
        self.behind = {}
        self.before = {pair: [] for pair in self.pairs}
        for pair in self.pairs:
            goals = [(sign, pair_behind(table, pair, sign)) for sign in a_book.signs]
            self.behind[pair] = [(sign, goal) for sign, goal in goals if goal[0] != goal[1]]
            for _, goal in self.behind[pair]:
                self.before[goal].append(pair)
        states = met(wire)
        self.arcs = {sign: [] for sign in wire.signs}
        for state, sign, goal in wire.arcs:
            if state in states:
                self.arcs[sign].append((1 << state, 1 << goal))
        whole = sum([1 << state for state in states])
        self.states = {pair: whole for pair in self.pairs}
        self.known = {}

    def from_where(self, sign, goals):
        """The states from which an arc with a sign leads to some of the goals."""
        key = (sign, goals)
        if key not in self.known:
            self.known[key] = sum([state for state, goal in self.arcs[sign] if goal & goals])
        return self.known[key]

    def kept_apart(self, pair):
        """The states from which a row of one arc more than before keeps a pair apart."""
        found = 0
        for sign, goal in self.behind[pair]:
            found = found | self.from_where(sign, self.states[goal])
        return found

    def heal(self):
        """Lets rows grow as long as this heals some pairs; returns by how many arcs they have grown."""
        rounds = 0
        waiting = self.pairs
        while True:
            # All pairs are looked at before one changes: a round is one arc.
            told = [(pair, self.kept_apart(pair)) for pair in waiting]
            changed = [(pair, found) for pair, found in told if found != self.states[pair]]
            if len(changed) == 0:
                return rounds
            rounds += 1
            again = {}
            for pair, found in changed:
                self.states[pair] = found
                for place in self.before[pair]:
                    again[place] = True
            waiting = list(again)

    def is_healed(self):
        """Tells whether no pair is kept apart any more."""
        return not any([found != 0 for found in self.states.values()])


def heals(a_book, wire):
    """The least number of signs of a wire that lead from all standings to one, or None."""
    check_both(a_book, wire)
    slips = Slips(a_book, wire)
    rounds = slips.heal()
    return rounds if slips.is_healed() else None


class Apart:
    """The places (one, other, state) from which two standings are kept apart for ever, and steps between them."""

    def __init__(self, a_book, wire, slips):
        self.table = steps_of_signs(a_book)
        self.arcs = {}
        for state, sign, goal in wire.arcs:
            self.arcs.setdefault(state, []).append((sign, goal))
        self.slips = slips
        self.seen = {}

    def steps(self, place):
        """Each (sign, place) to which a sign leads from a place."""
        one, other, state = place
        found = []
        for sign, goal in self.arcs[state]:
            ends = (self.table[(one, sign)], self.table[(other, sign)])
            pair = (min(ends), max(ends))
            if ends[0] != ends[1] and self.slips.states[pair] & (1 << goal) != 0:
                found.append((sign, (*ends, goal)))
        return found

    def walk(self, place):
        """The round (place, text) to which a walk from a place comes, or None if an earlier walk came there."""
        begun = len(self.seen)
        line = []
        while place not in self.seen:
            self.seen[place] = len(self.seen)
            sign, place = self.steps(place)[0]
            line.append(sign)
        at = self.seen[place] - begun
        return (place, "".join(line[at:])) if at >= 0 else None

    def some_round(self):
        """A round (place, text) of not more signs than a text has, as far as one is met; there has to be some round."""
        best = None
        for pair, states in self.slips.states.items():
            for state in self.arcs:
                found = self.walk((*pair, state)) if states & (1 << state) != 0 else None
                if found is not None and (best is None or len(found[1]) < len(best[1])):
                    best = found
                    # Most rounds are short: the first one is nearly always enough.
                    if len(best[1]) <= LONGEST_TEXT:
                        return best
        place, _ = best
        return place, self.shortest_round(place)

    def shortest_round(self, place):
        """The first text that leads from a place back to it; there has to be one."""
        origins = {}
        order = [place]
        at = 0
        while place not in origins:
            for sign, goal in self.steps(order[at]):
                if goal not in origins:
                    origins[goal] = (order[at], sign)
                    order.append(goal)
            at += 1
        behind, sign = origins[place]
        line = [sign]
        while behind != place:
            behind, sign = origins[behind]
            line.append(sign)
        return "".join(line[::-1])


def stays(a_book, wire):
    """None if a wire heals a book, else (one, other, state, text): this text keeps two standings apart."""
    check_both(a_book, wire)
    slips = Slips(a_book, wire)
    slips.heal()
    if slips.is_healed():
        return None
    place, text = Apart(a_book, wire, slips).some_round()
    return (*place, text)


def is_stays(a_book, wire, thing):
    """Tells whether something is (one, other, state, text) with a text that keeps two standings apart."""
    check_both(a_book, wire)
    if not isinstance(thing, tuple) or len(thing) != 4:
        return False
    one, other, state, text = thing
    if not is_number(state, 0, LAST_STATE) or not is_string_over(wire.signs, text, 1, LONGEST_TEXT):
        return False
    if not isinstance(one, str) or not isinstance(other, str) or one == other or state not in met(wire):
        return False
    # What is no standing has no steps.
    table = steps_of_signs(a_book)
    apart = end_in(table, one, text) == one and end_in(table, other, text) == other
    return apart and end_in(goals_of_signs(wire), state, text) == state

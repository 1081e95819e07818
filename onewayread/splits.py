"""The making of writers: rows of a wire, and states that are split until all have the same worth."""

from onewayread.falls import groups
from onewayread.looms import Loom, met


def live_states(wire, worths, span):
    """For 0 to span arcs: the states from which so many arcs lead to a state that is worth something."""
    live = [{state: True for state in worths}]
    for _ in range(span):
        last = live[-1]
        live.append({state: True for state, _, goal in wire.arcs if goal in last})
    return live


def arcs_by_signs(wire):
    """By states: the (sign, next) of its arcs, the last sign first."""
    table = {}
    for state, sign, goal in sorted(wire.arcs)[::-1]:
        table.setdefault(state, []).append((sign, goal))
    return table


def enough_rows(arcs, live, worths, state, enough):
    """The first rows from a state, as (text, end), that lead to so much worth together; there have to be some."""
    span = len(live) - 1
    found = []
    total = 0
    waiting = [("", state)]
    while total < enough:
        text, place = waiting.pop()
        if len(text) == span:
            found.append((text, place))
            total += worths[place]
        else:
            left = live[span - len(text) - 1]
            waiting.extend([(text + sign, goal) for sign, goal in arcs[place] if goal in left])
    return found


def sink(rows):
    """Some states that lead to one another, and to no other ones."""
    order = list(rows)
    ends = [[end for _, end in rows[state]] for state in order]
    matrix = [[line.count(state) for state in order] for line in ends]
    return [order[at] for at in groups(matrix)[0]]


def parcel(worths, choices):
    """Where worths one behind the other begin and end whose sum is a multiple of choices; there have to be some."""
    seen = {0: 0}
    total = 0
    at = 0
    while True:
        total = (total + worths[at]) % choices
        at += 1
        if total in seen:
            return seen[total], at
        seen[total] = at


class Making:
    """States of a writer in the making: of each one the wire's state, its worth, and its rows (text, next).

    The rows of a state always lead to as much worth as choices times its own, or more.
    """

    def __init__(self, places, worths, rows, choices):
        self.places = list(places)
        self.worths = list(worths)
        self.rows = list(rows)
        self.choices = choices

    def falling_row(self):
        """Some (state, number) of a row from a state of the greatest worth to one of a smaller, or None."""
        greatest = max(self.worths)
        for state, worth in enumerate(self.worths):
            if worth == greatest:
                for number, (_, goal) in enumerate(self.rows[state]):
                    if self.worths[goal] < greatest:
                        return state, number
        return None

    def divide(self, state, number):
        """Splits a state in two that share its rows and its worth; this row leads to less than its worth."""
        rows = self.rows[state]
        rows = [rows[number], *rows[:number], *rows[number + 1:]]
        begun, behind = parcel([self.worths[goal] for _, goal in rows], self.choices)
        taken = rows[begun:behind]
        worth = sum([self.worths[goal] for _, goal in taken]) // self.choices
        other = len(self.places)
        self.places.append(self.places[state])
        self.worths.append(worth)
        self.rows.append(taken)
        self.worths[state] -= worth
        self.rows[state] = rows[:begun] + rows[behind:]
        # Rows that led to the state lead to both.
        self.rows = [[(text, goal) for text, end in line for goal in ([end, other] if end == state else [end])]
                     for line in self.rows]

    def writer(self, signs):
        """The loom of the states that are met from the first one, with choices rows of each, and their places."""
        numbers = {0: 0}
        order = [0]
        arcs = []
        at = 0
        while at < len(order):
            for text, goal in self.rows[order[at]][:self.choices]:
                if goal not in numbers:
                    numbers[goal] = len(order)
                    order.append(goal)
                arcs.append((at, text, numbers[goal]))
            at += 1
        return Loom(signs, arcs), tuple([self.places[state] for state in order])


def made_writer(wire, span, choices, worths):
    """The writer that comes of a list that grows: of the worth of each met state of a wire."""
    worth = {state: number for state, number in zip(met(wire), worths) if number > 0}
    live = live_states(wire, worth, span)
    arcs = arcs_by_signs(wire)
    rows = {state: enough_rows(arcs, live, worth, state, choices * worth[state]) for state in worth}
    places = sink(rows)
    numbers = {place: at for at, place in enumerate(places)}
    lines = [[(text, numbers[end]) for text, end in rows[place]] for place in places]
    making = Making(places, [worth[place] for place in places], lines, choices)
    falling = making.falling_row()
    while falling is not None:
        making.divide(*falling)
        falling = making.falling_row()
    return making.writer(wire.signs)

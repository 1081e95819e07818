"""What remains of a list of equal numbers, where each one falls to what the rows of its state bring."""

from onewayread.cones import cone_of
from onewayread.pivots import exchanged, inverse

# How often all numbers are lowered one by one, beyond their number, before longer ways down are looked for.
PATIENCE = 10


def reached(rows, state):
    """The ascending list of the places to which rows lead from a place, itself counted."""
    seen = {state: True}
    order = [state]
    for place in range(len(rows)):
        if place < len(order):
            for goal, many in enumerate(rows[order[place]]):
                if many > 0 and goal not in seen:
                    seen[goal] = True
                    order.append(goal)
    return sorted(order)


def groups(rows):
    """The lists of places that lead to one another; each group stands behind those to which it leads."""
    found = {}
    for place in range(len(rows)):
        found.setdefault(tuple(reached(rows, place)), []).append(place)
    # What leads to another group reaches all that this one reaches, and more.
    return [found[key] for key in sorted(found, key=len)]


def sums_of(lines, numbers):
    """For each line of (place, many): the sum of the numbers at the places, each so many times."""
    return [sum([many * numbers[place] for place, many in line]) for line in lines]


def drops(matrix, bounds):
    """The least numbers from 0 on that lose at least the bounds; there have to be some.

    The matrix tells what each place loses.
    """
    lines = [[*row, -bound] for row, bound in zip(matrix, bounds)]
    divisor = 1
    raised = {}
    while True:
        short = [at for at in range(len(matrix)) if at not in raised and lines[at][-1] < 0]
        if len(short) == 0:
            break
        # A number that is above 0 once stays so: each place is taken once at most.
        at = short[0]
        raised[at] = True
        crossing = lines[at][at]
        lines = exchanged(lines, at, divisor)
        divisor = crossing
    # A part of a whole number cannot fall.
    return [-(-lines[at][-1] // divisor) if at in raised else 0 for at in range(len(matrix))]


class Part:
    """Places that lead to one another, and how their numbers fall."""

    def __init__(self, rows, choices, places):
        self.places = places
        self.choices = choices
        lines = [rows[place] for place in places]
        self.inside = [[(at, row[place]) for at, place in enumerate(places) if row[place] > 0] for row in lines]
        self.outside = [[(place, many) for place, many in enumerate(row) if many > 0 and place not in places]
                        for row in lines]
        self.matrix = [[-row[place] for place in places] for row in lines]
        for number in range(len(places)):
            self.matrix[number][number] += choices
        # Where nothing flows in, all falls to 0 then.
        self.is_dying = inverse(self.matrix) is not None
        self.cone = None if self.is_dying else cone_of(self.matrix)

    def swept(self, numbers, flow):
        """Lowers each number in turn to what rows bring; tells whether one is lower now."""
        lower = False
        for at, line in enumerate(self.inside):
            brought = (flow[at] + sum([many * numbers[place] for place, many in line])) // self.choices
            if brought < numbers[at]:
                numbers[at] = brought
                lower = True
        return lower

    def remaining(self, numbers, flow):
        """What remains of numbers by and by, where flow comes in from other parts."""
        if self.is_dying and max(flow) == 0:
            return [0 for _ in numbers]
        numbers = list(numbers)
        patience = len(numbers) + PATIENCE
        swept = 0
        while self.swept(numbers, flow):
            swept += 1
            if swept >= patience:
                swept = 0
                lower = self.fallen(numbers, flow)
                if lower == numbers:
                    patience = 2 * patience
                numbers = lower
        return numbers

    def fallen(self, numbers, flow):
        """Numbers that are not above those told, and not below what remains of them."""
        if self.cone is None or max(flow) > 0:
            brought = [total + more for total, more in zip(sums_of(self.inside, numbers), flow)]
            bounds = [self.choices * number - total for number, total in zip(numbers, brought)]
            return [number - drop for number, drop in zip(numbers, drops(self.matrix, bounds))]
        held = self.cone.last_hub(numbers[self.cone.hub])
        return [min(pair) for pair in zip(numbers, self.cone.highest(held))]


class Remains:
    """The parts of a wire, for what remains of any top."""

    def __init__(self, rows, choices):
        self.many = len(rows)
        self.parts = [Part(rows, choices, places) for places in groups(rows)]

    def of_top(self, top):
        """The list that remains of the top at all places."""
        numbers = [0] * self.many
        for part in self.parts:
            left = part.remaining([top] * len(part.places), sums_of(part.outside, numbers))
            for place, number in zip(part.places, left):
                numbers[place] = number
        return numbers

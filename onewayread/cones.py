"""Cones: all lists that grow, where the number of one state, the hub, bounds those of all other ones."""

from onewayread.pivots import exchanged


def last_fit(low, high, most):
    """The greatest number up to most so that a whole number lies from low to high times it.

    The two are fractions (p, q) from 0 on, low not above high.
    """
    (one, under), (other, below) = low, high
    line = []
    while True:
        whole = one // under
        one, other = one - whole * under, other - whole * below
        last = most * other // below
        if last * under >= most * one:
            break
        # Less than the whole number lies between the two: so turn both round, and look for
        # the last whole number instead, of which some number lies between.
        line.append((under, one))
        one, under, other, below = below, other, under, one
        most = last
    for under, one in line[::-1]:
        most = most * under // one
    return most


class Cone:
    """The hub, and for each state the bounds of its number for each one of the hub, as fractions."""

    def __init__(self, hub, lows, highs):
        self.hub = hub
        self.lows = lows
        self.highs = highs

    def last_hub(self, most):
        """The greatest number of the hub, up to most, for which each state has whole numbers within its bounds."""
        unchanged = 0
        at = 0
        while unchanged < len(self.lows):
            fit = last_fit(self.lows[at], self.highs[at], most)
            unchanged = unchanged + 1 if fit == most else 1
            most = fit
            at = (at + 1) % len(self.lows)
        return most

    def highest(self, held):
        """The greatest numbers of all states beside this one of the hub."""
        return [held * high // under for high, under in self.highs]


def cone_of(matrix):
    """The cone of the lists that lose nothing, or None if no hub bounds the other numbers.

    The matrix tells what each place loses; the places lead to one another.
    """
    places = list(range(len(matrix)))
    # To take what few lead to first leaves as hub what many lead to, and keeps the numbers small.
    order = sorted(places, key=lambda at: (sum([1 for row in matrix if row[at] != 0]), at))
    divisor = 1
    left = []
    for at in order:
        crossing = matrix[at][at]
        if crossing <= 0:
            left.append(at)
        else:
            matrix = exchanged(matrix, at, divisor)
            divisor = crossing
    if len(left) != 1:
        return None
    hub = left[0]
    lows = [(1, 1) if at == hub else low_of(matrix, divisor, hub, at) for at in places]
    highs = [(1, 1) if at == hub else (matrix[at][hub], divisor) for at in places]
    return Cone(hub, lows, highs)


def low_of(matrix, divisor, hub, at):
    """The least number of a place for each one of the hub, where all that the hub gains is lost there."""
    gain = -matrix[hub][at]
    left = matrix[hub][hub] * matrix[at][at] + matrix[at][hub] * gain
    return (left, divisor * gain) if left > 0 else (0, 1)

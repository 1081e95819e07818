"""A reader that takes a text sign by sign, and tells what has become sure."""

from onewayread.checks import LONGEST_WORD, check_state, is_string_over
from onewayread.errors import InvalidText, Stuck


class Trail:
    """A row of arcs: the last one and the trail ahead of it; the empty one has none.

    A reader makes each row just once, so two trails are equal if they are one object.
    """

    def __init__(self, ahead, number):
        self.ahead = ahead
        self.number = number
        if ahead is None:
            self.many = 0
            self.jump = self
        else:
            # Jumps back grow longer in a way that the number of arcs alone settles: so two
            # long trails are compared by few of them.
            far = ahead.jump
            doubled = ahead.many - far.many == far.many - far.jump.many
            self.many = ahead.many + 1
            self.jump = far.jump if doubled else ahead


def cut(trail, many):
    """The beginning of a trail with so many arcs."""
    while trail.many > many:
        trail = trail.jump if trail.jump.many >= many else trail.ahead
    return trail


def shared(one, other):
    """The longest trail with which both begin."""
    one = cut(one, other.many)
    other = cut(other, one.many)
    while one != other:
        if one.jump == other.jump:
            one, other = one.ahead, other.ahead
        else:
            one, other = one.jump, other.jump
    return one


def numbers_beyond(trail, many):
    """The numbers of the arcs of a trail behind so many of them."""
    numbers = []
    while trail.many > many:
        numbers.append(trail.number)
        trail = trail.ahead
    return numbers[::-1]


def arcs_by_beginnings(loom):
    """For each state and each beginning of a word: the arcs that leave it so, as (number, word, next)."""
    table = {}
    for number, (state, word, goal) in enumerate(loom.arcs):
        for end in range(1, len(word) + 1):
            table.setdefault((state, word[:end]), []).append((number, word, goal))
    return table


class Reader:
    """Reads a text from a state on, sign by sign."""

    def __init__(self, loom, state):
        check_state(state)
        self._loom = loom
        self._state = state
        self._arcs = arcs_by_beginnings(loom)
        self._text = ""
        self._told = []
        # For the last places of the text: the states to which rows lead that end there, each
        # with the trail that these rows share, and whether there is just one such row.
        self._places = [{state: (Trail(None, None), True)}]

    def take(self, sign):
        """Takes one sign, and returns the list of the numbers that have become sure by it."""
        if not is_string_over(self._loom.signs, sign, 1, 1):
            raise InvalidText()
        covers = self._covers(sign)
        if len(covers) == 0:
            raise Stuck()
        numbers = numbers_beyond(sure_trail(covers), len(self._told))
        self._text += sign
        self._told.extend(numbers)
        self._places = [*self._places, ends(covers)][-LONGEST_WORD:]
        return numbers

    def told(self):
        """The list of all numbers that are sure."""
        return list(self._told)

    def text(self):
        """What the reader has taken."""
        return self._text

    def twin(self):
        """A new reader that has taken the same."""
        made = Reader(self._loom, self._state)
        made._text = self._text
        made._told = list(self._told)
        made._places = list(self._places)
        return made

    def _covers(self, sign):
        """What rows may take last to cover the text and a sign behind it.

        These are tuples (trail, alone, arcs, length) for the rows that end at one place and
        in one state, where arcs cover what is left from there, that are so many signs.
        """
        text = self._text + sign
        found = []
        for back, place in enumerate(self._places[::-1]):
            left = text[len(text) - 1 - back:]
            for state, (trail, alone) in place.items():
                arcs = self._arcs.get((state, left), [])
                if len(arcs) > 0:
                    found.append((trail, alone, arcs, len(left)))
        return found


def sure_trail(covers):
    """The longest trail with which all rows begin that cover the text."""
    trail, alone, arcs, _ = covers[0]
    if len(covers) == 1 and alone and len(arcs) == 1:
        return Trail(trail, arcs[0][0])
    for other, _, _, _ in covers:
        trail = shared(trail, other)
    return trail


def ends(covers):
    """The states to which rows lead that end where the text ends, in the form of a reader's places."""
    found = {}
    for trail, alone, arcs, length in covers:
        for number, word, goal in arcs:
            if len(word) == length:
                longer = Trail(trail, number) if alone else trail
                if goal in found:
                    found[goal] = (shared(found[goal][0], longer), False)
                else:
                    found[goal] = (longer, alone)
    return found

"""What the parts of looms have to be, told for any value that may come."""

from onewayread.errors import InvalidLoom, InvalidText, UnknownState

MOST_SIGNS = 4
LONGEST_WORD = 12
LONGEST_TEXT = 2000
LAST_STATE = 63


def is_number(thing, low, high):
    """Tells whether something is an integer from low to high."""
    # Python counts booleans among the integers; this program never does.
    return isinstance(thing, int) and not isinstance(thing, bool) and low <= thing <= high


def is_sequence(thing, fewest, most):
    """Tells whether something is a list or tuple of so many items."""
    return isinstance(thing, (list, tuple)) and fewest <= len(thing) <= most


def is_signs(thing):
    """Tells whether something is a string of 1 to 4 small letters, ascending."""
    if not isinstance(thing, str) or not 1 <= len(thing) <= MOST_SIGNS:
        return False
    letters = all(["a" <= sign <= "z" for sign in thing])
    return letters and all([one < other for one, other in zip(thing, thing[1:])])


def is_string_over(signs, thing, fewest, most):
    """Tells whether something is a string of so many of the signs."""
    if not isinstance(thing, str) or not fewest <= len(thing) <= most:
        return False
    return all([sign in signs for sign in thing])


def is_word(signs, thing):
    """Tells whether something is a word over the signs."""
    return is_string_over(signs, thing, 1, LONGEST_WORD)


def first_wrong(thing, fewest, most, low, high):
    """None for a list or tuple of so many integers from low to high, else where it is wrong.

    That is -1, or the index of the first item that is no such integer.
    """
    if not is_sequence(thing, fewest, most):
        return -1
    for at, item in enumerate(thing):
        if not is_number(item, low, high):
            return at
    return None


def check_signs(signs):
    """Raises InvalidLoom for what are no signs."""
    if not is_signs(signs):
        raise InvalidLoom("signs", -1)


def check_state(state):
    """Raises UnknownState for what is no state."""
    if not is_number(state, 0, LAST_STATE):
        raise UnknownState()


def check_text(signs, text):
    """Raises InvalidText for what is no text over the signs."""
    if not is_string_over(signs, text, 0, LONGEST_TEXT):
        raise InvalidText()

"""Pages: looms and rows that are written as texts, and read again."""

from onewayread.checks import LAST_STATE, first_wrong, is_signs, is_word
from onewayread.errors import InvalidPage, InvalidRow
from onewayread.looms import MOST_ARCS, Loom
from onewayread.rows import MOST_ITEMS

EMPTY_ROW = "-"


def write_loom(loom):
    """The text of a loom: a line of its signs, and a line of each arc."""
    lines = [f"signs {loom.signs}"] + [f"arc {state} {word} {goal}" for state, word, goal in loom.arcs]
    return "".join([line + "\n" for line in lines])


def numbers_up_to(last):
    """By their texts: the numbers from 0 to the last one."""
    return {str(number): number for number in range(last + 1)}


def arc_in(signs, line):
    """The arc that a line tells, or None if it is no line of one."""
    parts = line.split(" ")
    states = numbers_up_to(LAST_STATE)
    if len(parts) != 4 or parts[0] != "arc" or parts[1] not in states or parts[3] not in states:
        return None
    return (states[parts[1]], parts[2], states[parts[3]]) if is_word(signs, parts[2]) else None


def signs_in(line):
    """The signs that a line tells, or None if it is no line of signs."""
    parts = line.split(" ")
    return parts[1] if len(parts) == 2 and parts[0] == "signs" and is_signs(parts[1]) else None


def read_loom(text):
    """The loom that a text tells."""
    if not isinstance(text, str):
        raise InvalidPage(0)
    lines = text.split("\n")
    # What stands behind the last newline is no line, or one that is not ended.
    left = lines.pop()
    signs = signs_in(lines[0]) if lines else None
    if signs is None:
        raise InvalidPage(1)
    arcs = []
    for at, line in enumerate(lines[1:]):
        arc = arc_in(signs, line)
        if arc is None or at == MOST_ARCS:
            raise InvalidPage(at + 2)
        arcs.append(arc)
    if left != "" or len(arcs) == 0:
        raise InvalidPage(len(lines) + 1)
    return Loom(signs, arcs)


def write_row(row):
    """The text of a list or tuple of numbers of arcs."""
    at = first_wrong(row, 0, MOST_ITEMS, 0, MOST_ARCS - 1)
    if at is not None:
        raise InvalidRow(at)
    return " ".join([str(number) for number in row]) if row else EMPTY_ROW


def read_row(text):
    """The list of numbers that a text tells."""
    if not isinstance(text, str):
        raise InvalidPage(0)
    if text == EMPTY_ROW:
        return []
    known = numbers_up_to(MOST_ARCS - 1)
    parts = text.split(" ")
    if len(parts) > MOST_ITEMS or not all([part in known for part in parts]):
        raise InvalidPage(0)
    return [known[part] for part in parts]

"""Slow and plain searches for rests, doubles and covered rows, and judges of them, to compare the program with."""

from tests.plain_search import rows_up_to


def plain_met(loom):
    found = [0]
    for place in found:
        found.extend(sorted({goal for state, _, goal in loom.arcs if state == place and goal not in found}))
    return sorted(found)


def plain_starts(loom):
    found = set()
    for at, (state, word, goal) in enumerate(loom.arcs):
        for other, (beside, longer, end) in enumerate(loom.arcs):
            if at != other and state == beside and state in plain_met(loom) and longer.startswith(word):
                found.add((goal, end, longer.removeprefix(word)))
    return found


def plain_steps(loom, rest):
    behind, ahead, left = rest
    found = set()
    for state, word, goal in loom.arcs:
        if state == behind and left.startswith(word):
            found.add((goal, ahead, left.removeprefix(word)))
        elif state == behind and word.startswith(left):
            found.add((ahead, goal, word.removeprefix(left)))
    return found


def plain_rests(loom):
    found = sorted(plain_starts(loom))
    seen = set(found)
    for rest in found:
        for further in sorted(plain_steps(loom, rest) - seen):
            found.append(further)
            seen.add(further)
    return sorted(found)


def plain_row(loom, state, thing):
    """The text and the end of a row, or None for what is none."""
    if thing.__class__ not in (list, tuple) or len(thing) > 2000:
        return None
    text, place = [], state
    for number in thing:
        if number.__class__ is not int or not 0 <= number < len(loom.arcs) or loom.arcs[number][0] != place:
            return None
        text.append(loom.arcs[number][1])
        place = loom.arcs[number][2]
    return "".join(text), place


def plain_rows(loom, thing):
    """The texts and the ends of both rows of a tuple (state, row, other), or None for what is none."""
    if thing.__class__ is not tuple or len(thing) != 3:
        return None
    state, one, other = thing
    if state.__class__ is not int or state not in plain_met(loom):
        return None
    rows = plain_row(loom, state, one), plain_row(loom, state, other)
    return None if None in rows else rows


def plain_is_double(loom, thing):
    rows = plain_rows(loom, thing)
    return rows is not None and rows[0] == rows[1] and list(thing[1]) != list(thing[2])


def plain_is_covered(loom, thing):
    rows = plain_rows(loom, thing)
    if rows is None or not thing[1] or not thing[2] or thing[1][0] == thing[2][0]:
        return False
    return rows[1][0][:len(rows[0][0])] == rows[0][0]


def plain_is_ring(loom, thing):
    if thing.__class__ is not tuple or len(thing) != 5 or not plain_is_covered(loom, thing[:3]):
        return False
    (text, end), (longer, longer_end) = plain_rows(loom, thing[:3])
    again, more = plain_row(loom, end, thing[3]), plain_row(loom, longer_end, thing[4])
    if again is None or more is None or again[1] != end or more[1] != longer_end or not thing[3]:
        return False
    left = longer[len(text):]
    return again[0] + left == left + more[0]


def plain_is_closed(loom, thing):
    if thing.__class__ not in (list, tuple):
        return False
    for item in thing:
        if item.__class__ is not tuple or len(item) != 3 or item[2].__class__ is not str or len(item[2]) > 12:
            return False
        if any(state.__class__ is not int or not 0 <= state <= 63 for state in item[:2]):
            return False
        if any(sign not in loom.signs for sign in item[2]) or (item[0] == item[1] and item[2] == ""):
            return False
    needed = plain_starts(loom).union(*[plain_steps(loom, item) for item in thing])
    return needed <= set(thing)


def plain_shortest_double(loom, length):
    """The length of the shortest text of a double if it is at most so long, else None."""
    found = []
    for state in plain_met(loom):
        seen = set()
        for _, words, end in rows_up_to(loom, state, length):
            text = "".join(words)
            if (text, end) in seen:
                found.append(len(text))
            seen.add((text, end))
    return min([many for many in found if many <= length], default=None)


def covers_text(loom, state, text):
    """Tells whether the text of some row from a state begins with a text."""
    places, at = {(state, 0)}, 0
    while places:
        further = set()
        for place, at in places:
            for begin, word, goal in loom.arcs:
                if begin == place and word.startswith(text[at:]):
                    return True
                if begin == place and text.startswith(word, at):
                    further.add((goal, at + len(word)))
        places = further
    return text == ""


def rows_of_arcs(loom, state, many):
    """All rows from a state of at most so many arcs, as (row, text, end)."""
    found = [([], "", state)]
    for row, text, end in found:
        if len(row) < many:
            for number, (begin, word, goal) in enumerate(loom.arcs):
                if begin == end:
                    found.append((row + [number], text + word, goal))
    return found


def plain_most_covered(loom, many):
    """The greatest number of arcs of a covered row, among the rows of at most so many arcs."""
    most = 0
    for state in plain_met(loom):
        for row, text, _ in rows_of_arcs(loom, state, many):
            if len(row) > most:
                others = [arc for number, arc in enumerate(loom.arcs) if arc[0] == state and number != row[0]]
                longer = [word for _, word, _ in others if word.startswith(text)]
                begun = [(goal, text[len(word):]) for _, word, goal in others if text.startswith(word)]
                if longer or any(covers_text(loom, goal, left) for goal, left in begun):
                    most = len(row)
    return most

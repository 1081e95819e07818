"""A slow and plain search over all rows, to compare the program with."""

import random

from onewayread.looms import Loom


def rows_up_to(loom, state, length):
    """All rows from a state that go one arc beyond so many signs at most, as (row, words, end)."""
    found = [([], [], state)]
    for row, words, end in found:
        if sum(len(word) for word in words) <= length:
            for number, (begin, word, goal) in enumerate(loom.arcs):
                if begin == end:
                    found.append((row + [number], words + [word], goal))
    return found


def covers(words, text):
    if not "".join(words).startswith(text):
        return False
    return words == [] or not "".join(words[:-1]).startswith(text)


def common_beginning(rows):
    row = []
    while all(len(other) > len(row) for other in rows) and len({other[len(row)] for other in rows}) == 1:
        row.append(rows[0][len(row)])
    return row


def plain_readings(loom, state, text):
    return sorted(row for row, words, _ in rows_up_to(loom, state, len(text)) if "".join(words) == text)


def plain_sure(loom, state, text):
    rows = [row for row, words, _ in rows_up_to(loom, state, len(text)) if covers(words, text)]
    return common_beginning(rows) if rows else None


def some_word(chance, signs, longest):
    return "".join(chance.choice(signs) for _ in range(chance.randint(1, longest)))


def some_loom(chance):
    """A small loom; words are kept few, so that rows meet one another often."""
    signs = chance.choice(["a", "ab", "ab", "abc", "xz"])
    states = [0] + [chance.randint(0, 63) for _ in range(chance.randint(0, 2))]
    words = [some_word(chance, signs, 3) for _ in range(chance.randint(1, 4))]
    arcs = [(chance.choice(states), chance.choice(words), chance.choice(states)) for _ in range(chance.randint(1, 5))]
    return Loom(signs, arcs), states


def cases(seed, many):
    """Many tuples (loom, state, text), the same ones in each run."""
    chance = random.Random(seed)
    for _ in range(many):
        loom, states = some_loom(chance)
        for _ in range(3):
            text = "".join(chance.choice(loom.signs) for _ in range(chance.randint(0, 6)))
            yield loom, chance.choice(states), text

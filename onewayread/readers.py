"""Plain books and their readers, which stand behind a beginning of a word."""

from onewayread.books import sum_of, words
from onewayread.checks import check_text
from onewayread.errors import NotFull, NotPlain, UnknownState
from onewayread.texts import first_text, shorter_first


def is_plain(a_book):
    """Tells whether no word of a book begins with another one, by their numbers."""
    told = sorted(words(a_book))
    # In this order those that begin with a word stand right behind it.
    return not any([longer.startswith(word) for word, longer in zip(told, told[1:])])


def check_plain(a_book):
    """Raises NotABook or NotPlain for what is no plain book."""
    if not is_plain(a_book):
        raise NotPlain()


def check_plain_full(a_book):
    """Raises NotABook, NotPlain or NotFull for what is no plain full book."""
    check_plain(a_book)
    # Plain books are one-way, and one-way ones are full exactly if their sum is 1.
    if sum_of(a_book) != (1, 1):
        raise NotFull()


def standings(a_book):
    """The list of the standings of a plain book, shorter first."""
    check_plain(a_book)
    return shorter_first(sorted({word[:at] for word in words(a_book) for at in range(len(word))}))


def go(a_book, standing, text):
    """Where a reader comes from a standing by a text, with the numbers it tells, or None if it is stuck."""
    known = standings(a_book)
    if not isinstance(standing, str) or standing not in known:
        raise UnknownState()
    check_text(a_book.signs, text)
    place, told = read_on(a_book, standing, text)
    return None if place is None else (place, told)


def read_on(a_book, standing, text):
    """Where a reader comes from a standing by a text, None if it gets stuck, and the numbers it tells till then."""
    numbers = {word: number for number, word in enumerate(words(a_book))}
    known = {begun: True for begun in standings(a_book)}
    place = standing
    told = []
    for sign in text:
        place = place + sign
        if place in numbers:
            told.append(numbers[place])
            place = ""
        elif place not in known:
            return None, told
    return place, told


def steps_of_signs(a_book):
    """By (standing, sign): where a sign leads from each standing of a plain full book."""
    whole = {word: True for word in words(a_book)}
    table = {}
    for standing in standings(a_book):
        for sign in a_book.signs:
            table[(standing, sign)] = "" if standing + sign in whole else standing + sign
    return table


def standings_behind(table, places, sign):
    """The standings to which a sign leads from some, ascending, each once."""
    return tuple(sorted({table[(place, sign)] for place in places}))


def pair_behind(table, pair, sign):
    """Where a sign leads from a pair of standings, the smaller one first."""
    one, other = table[(pair[0], sign)], table[(pair[1], sign)]
    return (one, other) if one <= other else (other, one)


def meeting(a_book):
    """The first text, shorter first, that leads from all standings to one, or None."""
    if never(a_book):
        return None
    table = steps_of_signs(a_book)
    begun = tuple(sorted(standings(a_book)))
    return first_text(a_book.signs, begun, lambda places, sign: standings_behind(table, places, sign),
                      lambda places: len(places) == 1)


def never(a_book):
    """The ascending list of the pairs of standings that no text leads to one and the same."""
    check_plain_full(a_book)
    table = steps_of_signs(a_book)
    order = sorted(standings(a_book))
    pairs = [(one, other) for at, one in enumerate(order) for other in order[at + 1:]]
    before = {pair: [] for pair in pairs}
    meets = {}
    waiting = []
    for pair in pairs:
        for sign in a_book.signs:
            goal = pair_behind(table, pair, sign)
            if goal[0] != goal[1]:
                before[goal].append(pair)
            elif pair not in meets:
                meets[pair] = True
                waiting.append(pair)
    while waiting:
        goal = waiting.pop()
        for pair in before[goal]:
            if pair not in meets:
                meets[pair] = True
                waiting.append(pair)
    return [pair for pair in pairs if pair not in meets]


def is_pair_of(known, thing):
    """Tells whether something is a tuple of two different standings."""
    if not isinstance(thing, tuple) or len(thing) != 2:
        return False
    one, other = thing
    if not isinstance(one, str) or not isinstance(other, str):
        return False
    return one in known and other in known and one != other


def is_never(a_book, thing):
    """Tells whether something is a list or tuple of pairs of standings that signs lead to such pairs only."""
    check_plain_full(a_book)
    if not isinstance(thing, (list, tuple)) or len(thing) == 0:
        return False
    known = {standing: True for standing in standings(a_book)}
    if not all([is_pair_of(known, pair) for pair in thing]):
        return False
    pairs = {(min(pair), max(pair)): True for pair in thing}
    table = steps_of_signs(a_book)
    return all([pair_behind(table, pair, sign) in pairs for pair in pairs for sign in a_book.signs])

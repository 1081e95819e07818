"""Lengths and prices: plain books with words of told lengths, and the least prices of books."""

from onewayread.books import book, words
from onewayread.checks import LONGEST_WORD, check_signs, first_wrong, is_number
from onewayread.errors import InvalidLengths, InvalidNumber, InvalidWeights

MOST_LENGTHS = 12
MOST_WEIGHTS = 8
GREATEST_WEIGHT = 1000


def check_weights(weights):
    """Raises InvalidWeights for what are no weights."""
    at = first_wrong(weights, 1, MOST_WEIGHTS, 0, GREATEST_WEIGHT)
    if at is not None:
        raise InvalidWeights(at)


def text_at(signs, place, length):
    """The text of a length with this place among all of them, ascending."""
    text = ""
    for _ in range(length):
        text = signs[place % len(signs)] + text
        place = place // len(signs)
    return text


def book_of_lengths(signs, lengths):
    """The plain book with words of these lengths, the shortest ones chosen first, or None."""
    check_signs(signs)
    at = first_wrong(lengths, 1, MOST_LENGTHS, 1, LONGEST_WORD)
    if at is not None:
        raise InvalidLengths(at)
    made = {}
    # As the lengths ascend, the texts that begin with a chosen word are the first ones.
    length, taken, many = 0, 0, 1
    order = sorted([(wanted, number) for number, wanted in enumerate(lengths)])
    for wanted, number in order:
        while length < wanted:
            length, taken, many = length + 1, taken * len(signs), many * len(signs)
        if taken == many:
            return None
        made[number] = text_at(signs, taken, length)
        taken += 1
    return book(signs, [made[number] for number in range(len(lengths))])


def price(a_book, weights):
    """The sum of each weight times the length of the word with its number."""
    told = words(a_book)
    check_weights(weights)
    if len(weights) != len(told):
        raise InvalidWeights(-1)
    return sum([weight * len(word) for weight, word in zip(weights, told)])


def cheapest_lengths(branches, weights, most):
    """The least price of plain words of at most so many signs, with their lengths; None if there are none.

    Each beginning goes on by so many branches; a weight that is greater gets no longer word.
    """
    order = sorted(weights, reverse=True)
    # By (free, done): the least price so far and the lengths of the words that are done, where so
    # many texts of one length are free. More of them than words are of no use.
    ways = {(min(branches, len(order)), 0): (0, [])}
    found = []
    for length in range(1, most + 1):
        further = {}
        for (free, done), (cost, lengths) in ways.items():
            # Each word that is not done yet takes one sign more.
            longer = cost + sum(order[done:])
            for more in range(min(free, len(order) - done) + 1):
                way = (longer, lengths + [length] * more)
                if done + more == len(order):
                    found.append(way)
                else:
                    state = (min((free - more) * branches, len(order)), done + more)
                    further[state] = min(further.get(state, way), way)
        ways = further
    return min(found) if found else None


def cheapest(signs, weights):
    """The least price of a one-way book with as many words as weights, or None if there is none."""
    return cheapest_within(signs, weights, LONGEST_WORD)


def cheapest_book(signs, weights):
    """Some plain book with the price that cheapest tells, or None."""
    check_signs(signs)
    check_weights(weights)
    told = cheapest_lengths(len(signs), weights, LONGEST_WORD)
    if told is None:
        return None
    lengths = {}
    order = sorted([(-weight, number) for number, weight in enumerate(weights)])
    for length, (_, number) in zip(told[1], order):
        lengths[number] = length
    return book_of_lengths(signs, [lengths[number] for number in range(len(weights))])


def cheapest_within(signs, weights, most):
    """The least price of a one-way book of words of at most so many signs, or None if there is none."""
    check_signs(signs)
    check_weights(weights)
    if not is_number(most, 1, LONGEST_WORD):
        raise InvalidNumber()
    # One-way books have the lengths of plain ones.
    told = cheapest_lengths(len(signs), weights, most)
    return None if told is None else told[0]


def cheapest_in_order(signs, weights):
    """The least price of a plain book whose words ascend in the order of the weights, or None."""
    check_signs(signs)
    check_weights(weights)
    if len(weights) == 1:
        return weights[0]
    if len(signs) == 1:
        return None
    return cheapest_trees(len(signs), weights)[(0, len(weights), 1)]


def least_cut(trees, begin, end, many):
    """The least price of words from begin to end: the first ones as one tree, the others below so many branches."""
    return min([trees[(begin, cut, 1)] + trees[(cut, end, many)] for cut in range(begin + 1, end)])


def cheapest_trees(branches, weights):
    """By (begin, end, many): the least price of the words from begin to end below at most so many branches.

    Below one branch, all of several words stand below one beginning, which has two branches or
    more: the first one has a tree of its own, and the others are left for the other branches.
    """
    trees = {}
    for size in range(1, len(weights) + 1):
        for begin in range(len(weights) - size + 1):
            end = begin + size
            whole = 0
            if size > 1:
                whole = sum(weights[begin:end]) + least_cut(trees, begin, end, branches - 1)
            trees[(begin, end, 1)] = whole
            for many in range(2, branches):
                cut = whole if size == 1 else least_cut(trees, begin, end, many - 1)
                trees[(begin, end, many)] = min(whole, cut)
    return trees

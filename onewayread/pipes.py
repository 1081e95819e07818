"""Pipes: words of a plain book that are written through a wire."""

from onewayread.books import words
from onewayread.checks import is_number
from onewayread.errors import InvalidNumber
from onewayread.looks import look
from onewayread.readers import check_plain, read_on
from onewayread.writers import check_numbers, read_back, writer, written

MOST_GROUP = 3
MOST_WORDS = 12


def number_of(signs, text):
    """The place of a text among all texts of its length, ascending."""
    number = 0
    for sign in text:
        number = number * len(signs) + signs.index(sign)
    return number


def text_of_number(signs, length, number):
    """The text of so many signs that has this place among all of them, ascending."""
    text = ""
    for _ in range(length):
        text = signs[number % len(signs)] + text
        number = number // len(signs)
    return text


class Pipe:
    """A plain book, the signs in a group of its text, and the writer that writes each group."""

    def __init__(self, a_book, group, wire, span):
        check_plain(a_book)
        if not is_number(group, 1, MOST_GROUP):
            raise InvalidNumber()
        choices = 1
        for _ in range(group):
            choices = choices * len(a_book.signs)
        self.made = writer(wire, span, choices)
        loom, _ = self.made
        self._look = look(loom)
        self._book = a_book
        self._group = group

    def write(self, numbers):
        """The text that is written for some numbers of words."""
        told = words(self._book)
        check_numbers(numbers, MOST_WORDS, len(told) - 1)
        signs = self._book.signs
        text = "".join([told[number] for number in numbers])
        text = text + signs[0] * (-len(text) % self._group)
        groups = [text[at:at + self._group] for at in range(0, len(text), self._group)]
        # The last choices are not sure until so many more are seen.
        return written(self.made, [number_of(signs, group) for group in groups] + [0] * self._look)

    def read(self, text, count):
        """The first so many numbers of words that were written, or None if a text does not make them sure."""
        choices = read_back(self.made, text)
        if not is_number(count, 0, MOST_WORDS):
            raise InvalidNumber()
        if choices is None:
            return None
        signs = self._book.signs
        groups = [text_of_number(signs, self._group, number) for number in choices]
        _, numbers = read_on(self._book, "", "".join(groups))
        return numbers[:count] if len(numbers) >= count else None

"""What several tests need: wrong values of all kinds, a time limit, and checks of errors and lists."""

import copy
import signal
import unittest
from collections import Counter
from fractions import Fraction

from onewayread import errors
from onewayread.books import book
from onewayread.desk import Desk
from onewayread.looms import Loom
from onewayread.pipes import Pipe
from onewayread.takers import Reader

SECONDS = 60
PIPE = Pipe(book("ab", ["a"]), 1, Loom("ab", [(0, "a", 0), (0, "b", 0)]), 1)
ATTRIBUTES = {
    "InvalidLoom": ["part", "at"], "UnknownState": [], "InvalidRow": ["at"], "InvalidText": [], "Stuck": [],
    "NotABook": [], "NotPlain": [], "NotFull": [], "NotOneWay": [], "NotAWire": [], "Unlike": [],
    "InvalidLengths": ["at"], "InvalidWeights": ["at"], "InvalidNumber": [], "InvalidBars": ["at"],
    "InvalidChoice": ["at"], "InvalidPage": ["line"], "UnknownWord": [], "InvalidWord": [],
    "LimitExceeded": ["limit"], "NothingLeft": ["word"],
}


def stop(number, frame):
    raise AssertionError(f"it took more than {SECONDS} seconds")


class TimedCase(unittest.TestCase):
    """Fails where something goes through far too many rows, or never ends."""

    def setUp(self):
        self.addCleanup(signal.signal, signal.SIGALRM, signal.signal(signal.SIGALRM, stop))
        # Again and again: a test may go on to its next part when one was stopped.
        signal.setitimer(signal.ITIMER_REAL, SECONDS, SECONDS)
        self.addCleanup(signal.setitimer, signal.ITIMER_REAL, 0)


def nested(depth, make):
    """A value that holds itself so many levels deep."""
    inner = make(0)
    for _ in range(depth - 1):
        inner = make(inner)
    return inner


def generated():
    yield 0


def filled_desk():
    desk = Desk("ab")
    desk.put("a")
    desk.put("b")
    return desk


def all_kinds():
    """Values of all kinds that Python has built in, and objects of the program, new on each call."""
    numbers = [-(10 ** 30), -2, -1, 0, 1, 2, 63, 64, 200, 10 ** 30, 0.0, 1.0, float("nan"), float("inf"), 1j]
    plain = [None, True, False, NotImplemented, Ellipsis]
    texts = ["", "a", "ab", "ba", "aa", "abc", "A", "a ", "a\n", "\n", "0", "1", "~", "abcde", "a" * 13, "a" * 2001]
    octets = [b"", b"a", b"ab", bytearray(b"a"), memoryview(b"a")]
    lists = [[], [0], [0, 0], [True], [1.0], ["a"], [None], [[]], [{}], [0] * 2001, [(0, "a", 0)], [0, "a", 0]]
    tuples = [(), (0,), (0, "a"), (0, "a", 0), (0, "a", 0, 0), ((0, "a", 0),), ([],), ({},), (0,) * 2001]
    tables = [{}, {0: 0}, {"a": []}, set(), {0}, {"a"}, frozenset(), frozenset([0]), {0: "a"}.items(), {0: 1}.keys()]
    steps = [range(0), range(3), slice(0, 1), iter([0]), iter("ab"), generated(), zip([0], [1]), map(len, ["a"])]
    calls = [len, generated, lambda thing: thing, [].append, "a".join, print]
    classes = [int, str, list, object, bool, tuple, Loom, errors.InvalidRow, list[int], int | str]
    things = [object(), ValueError("a"), property(), staticmethod(len), errors.InvalidRow(0), errors.NotABook()]
    looms = [Loom("a", [(0, "a", 0)]), Loom("ab", [(0, "b", 1), (1, "ab", 0)])]
    looms += [Reader(looms[0], 0), Desk("ab"), filled_desk(), PIPE]
    deep = [nested(40, lambda inner: [inner]), nested(40, lambda inner: (inner,)), nested(40, lambda inner: {0: inner})]
    rows = [numbers, plain, texts, octets, lists, tuples, tables, steps, calls, classes, things, looms, deep]
    return [value for row in rows for value in row]


def is_state(value):
    return isinstance(value, int) and not isinstance(value, bool) and 0 <= value <= 63


def is_string_over(signs, value, fewest, most):
    return isinstance(value, str) and fewest <= len(value) <= most and all(sign in signs for sign in value)


def no_states():
    return [value for value in all_kinds() if not is_state(value)]


def no_signs():
    """What are no signs: values of all kinds, and strings of wrong or unordered letters."""
    right = ["a", "ab", "abc"]
    strings = ["aba", "acb", "aab", "abb", "aB", "AB", "a1", "1", "a~", " a", "ab ", "ab\n", "\nab", "edcba", "bca"]
    return [value for value in all_kinds() if not (isinstance(value, str) and value in right)] + strings


def no_texts(signs):
    return [value for value in all_kinds() if not is_string_over(signs, value, 0, 2000)]


def no_sequences():
    return [value for value in all_kinds() if not isinstance(value, (list, tuple))]


def no_integers(low, high):
    """What are no integers from low to high: values of all kinds, and numbers of all kinds near by."""
    near = [low - 1, high + 1, -low - 1, float(low), Fraction(low), str(low), [low], (low,), 2 ** 64 + low]
    return near + [value for value in all_kinds() if not (value.__class__ is int and low <= value <= high)]


def check_error(test, kind, told, function, *arguments):
    """Checks that a call raises just this class, with these attributes in their order."""
    try:
        answer = function(*arguments)
    except errors.ReadError as error:
        test.assertIs(error.__class__, kind)
        values = [getattr(error, name) for name in ATTRIBUTES[kind.__name__]]
        test.assertEqual(values, told)
        test.assertEqual([value.__class__ for value in values], [value.__class__ for value in told])
        return
    test.fail(f"{kind.__name__} was not raised; the answer was {answer!r}")


def check_new_lists_inside(test, function, *arguments):
    """Checks that the lists inside what is returned are new ones on each call; returns it, and what it was."""
    first = function(*arguments)
    kept = copy.deepcopy(first)
    for item in first:
        if isinstance(item, list):
            item.append("spoilt")
    test.assertEqual(function(*arguments), kept)
    return first, kept


def check_new_list(test, function, *arguments):
    """Checks that a function returns a list of its own on each call, new inside too."""
    first, kept = check_new_lists_inside(test, function, *arguments)
    test.assertIs(first.__class__, list)
    first.append("spoilt")
    second = function(*arguments)
    test.assertIsNot(second, first)
    test.assertEqual(second, kept)


def replaced(thing, at, value):
    return thing.__class__([*thing[:at], value, *thing[at + 1:]])


def spoilt(thing):
    """A list or tuple with each item in turn replaced by values of all kinds, and with items too few or too many."""
    yield thing[:-1]
    yield thing[1:]
    yield thing.__class__([*thing, *thing[:1]])
    for at in range(len(thing)):
        for value in all_kinds():
            yield replaced(thing, at, value)


def spoilt_inside(thing):
    """The same of a list or tuple, and of the lists and tuples inside it."""
    yield from spoilt(thing)
    for at, item in enumerate(thing):
        if isinstance(item, (list, tuple)):
            for value in spoilt(item):
                yield replaced(thing, at, value)


def check_judge(test, judge, plain, loom, things):
    """Checks that a judge tells True or False of each thing, the same as a plain one, and counts both."""
    told = Counter()
    for thing in things:
        answer = judge(loom, thing)
        test.assertIs(answer, bool(plain(loom, thing)), (loom.arcs, thing))
        told[answer] += 1
    return told

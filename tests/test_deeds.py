"""[112]: deeds that are taken back and done again, and attempts."""

import copy
import random
import unittest

from onewayread.books import words
from onewayread.desk import Desk
from onewayread.errors import InvalidWord, LimitExceeded, NothingLeft, NotOneWay, NotPlain, ReadError, UnknownWord

from tests.helpers import ATTRIBUTES, TimedCase, check_error
from tests.plain_desk import PlainDesk, some_deed
from tests.test_desk import desk_of, told_of


def done(desk, deed):
    """Does a deed on a desk; returns what it returns, or the error's class and its attributes."""
    try:
        return getattr(desk, deed[0])(*deed[1:])
    except ReadError as error:
        return error.__class__, [getattr(error, name) for name in ATTRIBUTES[error.__class__.__name__]]


def history(desk):
    """All that a desk has been and will be, by undos and redos; it stands as before behind it."""
    line = [told_of(desk)]
    behind = 0
    while done(desk, ("undo",)) is None:
        behind += 1
        line.insert(0, told_of(desk))
    for _ in range(behind):
        desk.redo()
    ahead = 0
    while done(desk, ("redo",)) is None:
        ahead += 1
        line.append(told_of(desk))
    for _ in range(ahead):
        desk.undo()
    return line, behind


class Undo(TimedCase):
    def test_undo_and_redo(self):
        desk = desk_of("ab", ["a", "b"])
        self.assertIsNone(desk.undo())
        self.assertEqual(told_of(desk), ["a"])
        self.assertIsNone(desk.undo())
        self.assertEqual(told_of(desk), [])
        check_error(self, NothingLeft, ["undo"], desk.undo)
        self.assertIsNone(desk.redo())
        self.assertIsNone(desk.redo())
        self.assertEqual(told_of(desk), ["a", "b"])
        check_error(self, NothingLeft, ["redo"], desk.redo)

    def test_a_new_deed_ends_what_could_be_done_again(self):
        for deed in [("put", "aa"), ("drop", 0), ("turn", 0, "a"), ("fill",), ("put_one_way", "b")]:
            desk = desk_of("ab", ["a", "b"])
            desk.undo()
            self.assertIsNone(done(desk, deed))
            check_error(self, NothingLeft, ["redo"], desk.redo)

    def test_a_call_that_raises_an_error_is_no_deed(self):
        for told, deed, error in [
                (["a"], ("put", "c"), (InvalidWord, [])), (["a"] * 12, ("put", "a"), (LimitExceeded, [12])),
                (["a"], ("drop", 1), (UnknownWord, [])), (["a"], ("turn", 0, ""), (InvalidWord, [])),
                (["a"], ("put_one_way", "aa"), (NotOneWay, [])), (["a", "ab"], ("fill",), (NotPlain, [])),
                ([], ("fill",), (NothingLeft, ["book"])),
                (["a"], ("attempt", [("put", "b"), ("drop", 2)]), (UnknownWord, []))]:
            desk = desk_of("ab", [*told, "b"][:12])
            if len(told) < 12:
                desk.undo()
            before = history(desk)
            self.assertEqual(done(desk, deed), error)
            self.assertEqual(history(desk), before)

    def test_an_undo_or_redo_that_fails_changes_nothing(self):
        desk = desk_of("ab", ["a"])
        check_error(self, NothingLeft, ["redo"], desk.redo)
        desk.undo()
        check_error(self, NothingLeft, ["undo"], desk.undo)
        self.assertEqual(history(desk), ([[], ["a"]], 0))

    def test_fill_is_one_deed(self):
        desk = desk_of("ab", ["abab"])
        desk.fill()
        self.assertEqual(len(desk), 5)
        desk.undo()
        self.assertEqual(told_of(desk), ["abab"])
        desk.redo()
        self.assertEqual(len(desk), 5)

    def test_long_histories(self):
        desk = Desk("ab")
        for many in range(2000):
            desk.put("ab"[many % 2])
            desk.drop(0)
        for _ in range(4000):
            desk.undo()
        check_error(self, NothingLeft, ["undo"], desk.undo)
        desk.redo()
        self.assertEqual(told_of(desk), ["a"])


class Attempt(TimedCase):
    def test_all_of_the_deeds(self):
        desk = desk_of("ab", ["aa", "b"])
        self.assertIsNone(desk.attempt([("drop", 0), ("put", "ba"), ("undo",), ("redo",)]))
        self.assertEqual(told_of(desk), ["b", "ba"])
        self.assertEqual(history(desk), ([[], ["aa"], ["aa", "b"], ["b"], ["b", "ba"]], 4))

    def test_each_kind_of_deed(self):
        desk = Desk("ab")
        desk.attempt((("put", "b"), ("put_one_way", "aa"), ("turn", 0, "bb"), ("fill",), ("drop", 1)))
        self.assertEqual(told_of(desk), ["bb", "ab", "ba"])
        desk.attempt([("undo",), ("undo",), ("redo",), ("attempt", [("put", "a")]), ("attempt", ())])
        self.assertEqual(told_of(desk), ["bb", "aa", "ab", "ba", "a"])

    def test_none_of_the_deeds(self):
        for deeds, error in [
                ([("put", "b"), ("put", "c")], (InvalidWord, [])), ([("drop", 0)] * 3, (UnknownWord, [])),
                ([("put", "b")] * 11, (LimitExceeded, [12])), ([("undo",)] * 4, (NothingLeft, ["undo"])),
                ([("redo",), ("redo",)], (NothingLeft, ["redo"])), ([("put", "b"), ("redo",)], (NothingLeft, ["redo"])),
                ([("drop", 0), ("drop", 0), ("fill",)], (NothingLeft, ["book"])),
                ([("put", "a"), ("fill",)], (NotPlain, [])), ([("turn", 5, "a")], (UnknownWord, [])),
                ([("put_one_way", "b"), ("put_one_way", "ab")], (NotOneWay, []))]:
            for nested in [deeds, tuple(deeds), [("put", "aa"), ("undo",), ("undo",), ("redo",), ("attempt", deeds)]]:
                desk = desk_of("ab", ["a", "bb", "ab"])
                desk.undo()
                before = history(desk)
                self.assertEqual(done(desk, ("attempt", nested)), error)
                self.assertEqual(history(desk), before)

    def test_undo_takes_back_elder_deeds_too(self):
        desk = desk_of("ab", ["a", "b"])
        desk.attempt([("undo",), ("undo",), ("put", "bb")])
        self.assertEqual(history(desk), ([[], ["bb"]], 1))

    def test_no_deeds(self):
        desk = desk_of("ab", ["a", "b"])
        desk.undo()
        for deeds in [[], (), [("attempt", [])], [("undo",), ("redo",)]]:
            before = history(desk)
            self.assertIsNone(desk.attempt(deeds))
            self.assertEqual(history(desk), before)

    def test_an_inner_attempt_that_fails_lets_all_fail(self):
        desk = desk_of("ab", ["a"])
        deeds = [("put", "b"), ("attempt", [("put", "aa"), ("attempt", [("put", "bb"), ("drop", 9)])])]
        before = history(desk)
        check_error(self, UnknownWord, [], desk.attempt, deeds)
        self.assertEqual(history(desk), before)

    def test_forty_deeds_and_more(self):
        for many in [40, 41, 60]:
            desk = Desk("ab")
            desk.attempt([("put", "a"), ("undo",)] * (many // 2) + [("put", "b")] * (many % 2))
            self.assertEqual(len(desk), many % 2)
            desk.attempt([("put", "a"), *[("turn", 0, "ab")] * (many - 1)])
            self.assertEqual(history(desk)[1], many % 2 + many)
            before = history(desk)
            check_error(self, UnknownWord, [], desk.attempt, [*[("turn", 0, "b")] * (many - 1), ("drop", 2)])
            self.assertEqual(history(desk), before)

    def test_four_deep_and_deeper(self):
        for depth in [1, 4, 5, 8]:
            for last, error in [(("put", "b"), None), (("put", "c"), (InvalidWord, []))]:
                deeds = [("put", "aa"), last]
                for _ in range(depth - 1):
                    deeds = [("put", "ab"), ("attempt", deeds)]
                desk = Desk("ab")
                self.assertEqual(done(desk, ("attempt", deeds)), error)
                self.assertEqual(told_of(desk), ["ab"] * (depth - 1) + ["aa", "b"] if error is None else [])
                self.assertEqual(history(desk)[1], depth + 1 if error is None else 0)

    def test_a_list_of_deeds_that_is_changed_later_changes_no_desk(self):
        inner = [("put", "b"), ("put", "ba")]
        deeds = [("put", "aa"), ("attempt", inner)]
        kept = copy.deepcopy(deeds)
        desk = Desk("ab")
        desk.attempt(deeds)
        self.assertEqual(deeds, kept)
        deeds.clear()
        inner[0] = ("drop", 0)
        self.assertEqual(history(desk), ([[], ["aa"], ["aa", "b"], ["aa", "b", "ba"]], 3))
        self.assertEqual(words(desk.book()), ["aa", "b", "ba"])


class AgainstAModel(TimedCase):
    def test_drawn_deeds(self):
        chance = random.Random(113)
        told = {}
        for _ in range(250):
            signs = chance.choice(["a", "ab", "ab", "abc", "wxyz"])
            desk, model = Desk(signs), PlainDesk(signs)
            for _ in range(chance.randint(1, 40)):
                deed = some_deed(chance, signs, 3)
                answer = done(desk, deed)
                self.assertEqual(answer, model.do(deed), deed)
                self.assertEqual(told_of(desk), model.words())
                key = (deed[0], None if answer is None else answer[0].__name__)
                told[key] = told.get(key, 0) + 1
            self.assertEqual(history(desk), (model.line, model.at))
        self.assertGreater(len(told), 20)
        for name in ["InvalidWord", "UnknownWord", "NothingLeft", "NotPlain", "NotOneWay"]:
            self.assertGreater(told[("attempt", name)], 5, told)

    def test_drawn_deeds_of_full_desks(self):
        chance = random.Random(114)
        for _ in range(60):
            desk, model = Desk("ab"), PlainDesk("ab")
            for _ in range(11):
                word = "".join(chance.choices("ab", k=4))
                desk.put(word)
                model.do(("put", word))
            for _ in range(15):
                deed = some_deed(chance, "ab", 2)
                self.assertEqual(done(desk, deed), model.do(deed))
                self.assertEqual(told_of(desk), model.words())
            self.assertEqual(history(desk), (model.line, model.at))

    def test_desks_that_are_drawn_apart(self):
        chance = random.Random(115)
        pairs = [(Desk("ab"), PlainDesk("ab"))]
        for _ in range(600):
            desk, model = chance.choice(pairs)
            if chance.random() < 0.1 and len(pairs) < 6:
                twin = PlainDesk("ab")
                twin.line = [list(model.words())]
                pairs.append((desk.twin(), twin))
            deed = some_deed(chance, "ab", 1)
            self.assertEqual(done(desk, deed), model.do(deed))
            for other, beside in pairs:
                self.assertEqual(told_of(other), beside.words())
        for desk, model in pairs:
            self.assertEqual(history(desk), (model.line, model.at))


if __name__ == "__main__":
    unittest.main()

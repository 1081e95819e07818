"""[110] and [111]: the desk, its words and its deeds."""

import copy
import random
import unittest

from onewayread.books import book, is_full, sum_of, words
from onewayread.desk import Desk
from onewayread.errors import InvalidLoom, InvalidWord, LimitExceeded, NothingLeft, NotOneWay, NotPlain, UnknownWord
from onewayread.readers import is_plain
from onewayread.rests import one_way

from tests.helpers import TimedCase, all_kinds, check_error, is_string_over, no_integers, no_signs
from tests.plain_books import plain_is_plain, some_plain_words
from tests.plain_desk import PlainDesk, plain_fill, plain_one_way
from tests.plain_search import some_word


def desk_of(signs, told):
    desk = Desk(signs)
    for word in told:
        desk.put(word)
    return desk


def told_of(desk):
    return [desk[at] for at in range(len(desk))]


def no_words(signs):
    return [value for value in all_kinds() if not is_string_over(signs, value, 1, 12)]


class Words(TimedCase):
    def test_words_at_their_places(self):
        desk = Desk("ab")
        self.assertEqual([desk.signs, len(desk)], ["ab", 0])
        desk.put("ab")
        desk.put("b" * 12)
        desk.put("ab")
        self.assertEqual([len(desk), desk[0], desk[1], desk[2]], [3, "ab", "b" * 12, "ab"])

    def test_signs(self):
        for signs in ["a", "z", "ab", "wxyz"]:
            self.assertEqual(Desk(signs).signs, signs)
        for value in no_signs():
            check_error(self, InvalidLoom, ["signs", -1], Desk, value)

    def test_what_is_no_place(self):
        desk = desk_of("ab", ["a", "b", "a"])
        for value in [*no_integers(0, 2), slice(0, 2), (0,), "a"]:
            check_error(self, UnknownWord, [], lambda at: desk[at], value)
            check_error(self, UnknownWord, [], desk.drop, value)
            for word in ["a", "", None]:
                check_error(self, UnknownWord, [], desk.turn, value, word)
        for value in all_kinds():
            check_error(self, UnknownWord, [], lambda at: Desk("ab")[at], value)
            check_error(self, UnknownWord, [], Desk("ab").drop, value)
            check_error(self, UnknownWord, [], Desk("ab").turn, value, "a")
        self.assertEqual(told_of(desk), ["a", "b", "a"])

    def test_words_in_the_desk(self):
        desk = desk_of("ab", ["ab", "b"])
        for word, told in [("ab", True), ("b", True), ("a", False), ("", False), ("abb", False), ("B", False)]:
            self.assertIs(word in desk, told)
        desk.drop(0)
        self.assertIs("ab" in desk, False)
        desk = desk_of("ab", ["ab", "aa"])
        for value in all_kinds():
            self.assertIs(value in desk, isinstance(value, str) and value in ["ab", "aa"])
            self.assertIs(value in Desk("ab"), False)

    def test_the_book(self):
        desk = desk_of("ab", ["b", "aa", "b"])
        self.assertEqual(desk.book(), book("ab", ["b", "aa", "b"]))
        self.assertEqual(words(desk.book()), ["b", "aa", "b"])
        check_error(self, NothingLeft, ["book"], Desk("ab").book)
        for _ in range(3):
            desk.drop(0)
        check_error(self, NothingLeft, ["book"], desk.book)

    def test_a_book_stays_as_it_was(self):
        desk = desk_of("ab", ["b"])
        told = desk.book()
        desk.put("a")
        desk.turn(0, "aa")
        self.assertEqual(words(told), ["b"])

    def test_it_is_not_iterated_over(self):
        desk = desk_of("ab", ["b", "a"])
        for call in [iter, list, tuple, set, enumerate, lambda desk: [word for word in desk], lambda desk: (*desk,)]:
            with self.assertRaises(TypeError):
                call(desk)
        with self.assertRaises(TypeError):
            one, other = desk


class Deeds(TimedCase):
    def test_put(self):
        desk = Desk("ab")
        self.assertIsNone(desk.put("b"))
        self.assertIsNone(desk.put("b"))
        self.assertEqual(told_of(desk), ["b", "b"])

    def test_drop(self):
        desk = desk_of("ab", ["a", "b", "ab"])
        self.assertIsNone(desk.drop(1))
        self.assertEqual(told_of(desk), ["a", "ab"])
        self.assertIsNone(desk.drop(1))
        self.assertIsNone(desk.drop(0))
        self.assertEqual(told_of(desk), [])

    def test_turn(self):
        desk = desk_of("ab", ["a", "b", "ab"])
        self.assertIsNone(desk.turn(1, "bb"))
        self.assertEqual(told_of(desk), ["a", "bb", "ab"])
        self.assertIsNone(desk.turn(2, "ab"))
        self.assertEqual(told_of(desk), ["a", "bb", "ab"])

    def test_twelve_words(self):
        desk = desk_of("ab", ["a"] * 12)
        self.assertEqual(len(desk), 12)
        for call in [desk.put, desk.put_one_way]:
            check_error(self, LimitExceeded, [12], call, "b")
            for value in no_words("ab"):
                check_error(self, InvalidWord, [], call, value)
        desk.turn(11, "b")
        desk.drop(0)
        desk.put("bb")
        self.assertEqual(told_of(desk), ["a"] * 10 + ["b", "bb"])
        check_error(self, LimitExceeded, [12], desk.put, "b")

    def test_what_is_no_word(self):
        desk = desk_of("ab", ["a"])
        for value in [*no_words("ab"), "a" * 13, "c", "ab c"]:
            check_error(self, InvalidWord, [], desk.put, value)
            check_error(self, InvalidWord, [], desk.put_one_way, value)
            check_error(self, InvalidWord, [], desk.turn, 0, value)
        self.assertEqual(told_of(desk), ["a"])

    def test_each_one_is_a_deed_also_if_it_changes_nothing(self):
        desk = desk_of("ab", ["a", "b"])
        desk.turn(0, "a")
        desk.fill()
        self.assertEqual(told_of(desk), ["a", "b"])
        desk.undo()
        desk.undo()
        self.assertEqual(told_of(desk), ["a", "b"])
        desk.undo()
        self.assertEqual(told_of(desk), ["a"])


class PutOneWay(TimedCase):
    def test_ordinary_words(self):
        desk = Desk("ab")
        self.assertIsNone(desk.put_one_way("a"))
        self.assertIsNone(desk.put_one_way("ab"))
        for word in ["a", "b", "aa", "aab", "ab"]:
            check_error(self, NotOneWay, [], desk.put_one_way, word)
        self.assertIsNone(desk.put_one_way("bb"))
        self.assertEqual(told_of(desk), ["a", "ab", "bb"])

    def test_a_desk_that_is_not_one_way_stays_so(self):
        desk = desk_of("ab", ["a", "a"])
        check_error(self, NotOneWay, [], desk.put_one_way, "b")
        desk.drop(0)
        self.assertIsNone(desk.put_one_way("b"))

    def test_errors_in_their_order(self):
        desk = desk_of("a", ["a"] * 12)
        check_error(self, InvalidWord, [], desk.put_one_way, "b")
        check_error(self, LimitExceeded, [12], desk.put_one_way, "a")
        desk.drop(0)
        check_error(self, NotOneWay, [], desk.put_one_way, "a")

    def test_drawn_words(self):
        chance = random.Random(111)
        told = {True: 0, False: 0}
        for _ in range(300):
            signs = chance.choice(["a", "ab", "ab", "xyz"])
            desk = desk_of(signs, [some_word(chance, signs, 4) for _ in range(chance.randint(0, 4))])
            word = some_word(chance, signs, 4)
            expected = plain_one_way(signs, [*told_of(desk), word])
            told[expected] += 1
            if expected:
                self.assertIsNone(desk.put_one_way(word))
                self.assertIs(one_way(desk.book()), True)
            else:
                check_error(self, NotOneWay, [], desk.put_one_way, word)
        self.assertGreater(min(told.values()), 50)


class Fill(TimedCase):
    def check(self, signs, told):
        desk = desk_of(signs, told)
        self.assertIsNone(desk.fill())
        self.assertEqual(told_of(desk), plain_fill(signs, told))
        self.assertIs(is_plain(desk.book()), True)
        if len(desk) < 12:
            self.assertEqual(sum_of(desk.book()), (1, 1))
            if sum(len(word) for word in told_of(desk)) <= 24:
                self.assertIs(is_full(desk.book()), True)
        desk.undo()
        self.assertEqual(told_of(desk), told)
        return plain_fill(signs, told)

    def test_ordinary_words(self):
        self.assertEqual(self.check("ab", ["aa", "b"]), ["aa", "b", "ab"])
        self.assertEqual(self.check("ab", ["aa"]), ["aa", "b", "ab"])
        self.assertEqual(self.check("ab", ["bab"]), ["bab", "a", "bb", "baa"])
        self.assertEqual(self.check("abcd", ["c"]), ["c", "a", "b", "d"])
        self.assertEqual(self.check("a", ["a"]), ["a"])
        self.assertEqual(self.check("a", ["a" * 12]), ["a" * 12])

    def test_until_there_are_twelve_words(self):
        self.assertEqual(len(self.check("ab", ["a" * 11])), 12)
        self.assertEqual(self.check("ab", ["a" * 12])[1:], ["a" * many + "b" for many in range(11)])
        self.assertEqual(len(self.check("abcd", ["abcd"])), 12)
        self.assertEqual(len(self.check("ab", ["a" * 10])), 11)
        twelve = ["a" * many + "b" for many in range(12)]
        self.assertEqual(self.check("ab", twelve), twelve)
        self.assertEqual(self.check("ab", twelve[::-1]), twelve[::-1])

    def test_full_books(self):
        for told in [["a", "b"], ["b", "a"], ["aa", "ab", "b"], ["b", "ab", "aaa", "aab"]]:
            self.assertEqual(self.check("ab", told), told)

    def test_drawn_books(self):
        chance = random.Random(112)
        for _ in range(150):
            signs = chance.choice(["ab", "abc", "ab", "wxyz"])
            told = some_plain_words(chance, signs, 12, chance.random() < 0.3, 5)
            chance.shuffle(told)
            self.check(signs, told[:chance.randint(1, len(told))])

    def test_no_words_and_books_that_are_not_plain(self):
        check_error(self, NothingLeft, ["book"], Desk("ab").fill)
        for told in [["a", "a"], ["a", "ab"], ["ab", "b", "a"], ["a"] * 12, ["b", "ba"]]:
            desk = desk_of("ab", told)
            self.assertFalse(plain_is_plain(told))
            check_error(self, NotPlain, [], desk.fill)
            self.assertEqual(told_of(desk), told)


class Equality(TimedCase):
    def test_equal_signs_and_words(self):
        self.assertEqual(Desk("ab"), Desk("ab"))
        self.assertEqual(desk_of("ab", ["a", "b"]), desk_of("ab", ["a", "b"]))
        self.assertNotEqual(desk_of("ab", ["a", "b"]), desk_of("ab", ["b", "a"]))
        self.assertNotEqual(desk_of("ab", ["a"]), desk_of("ab", ["a", "a"]))
        self.assertNotEqual(desk_of("ab", ["a"]), desk_of("abc", ["a"]))
        self.assertNotEqual(Desk("ab"), Desk("a"))

    def test_the_history_does_not_count(self):
        desk = desk_of("ab", ["a", "b"])
        desk.undo()
        self.assertTrue(desk == desk_of("ab", ["a"]))
        self.assertFalse(desk != desk_of("ab", ["a"]))

    def test_other_things(self):
        desk = desk_of("ab", ["a"])
        for value in all_kinds():
            self.assertIs(desk == value, False)
            self.assertIs(desk != value, True)
        self.assertFalse(desk == ["a"])
        self.assertFalse(desk == desk.book())
        self.assertFalse(desk == PlainDesk("ab"))


class Twins(TimedCase):
    def test_the_same_words_and_no_history(self):
        desk = desk_of("ab", ["a", "b", "ab"])
        desk.undo()
        twin = desk.twin()
        self.assertEqual([twin.__class__, twin.signs, told_of(twin)], [Desk, "ab", ["a", "b"]])
        self.assertEqual(twin, desk)
        check_error(self, NothingLeft, ["undo"], twin.undo)
        check_error(self, NothingLeft, ["redo"], twin.redo)
        self.assertEqual(Desk("xy").twin(), Desk("xy"))

    def test_what_is_done_on_one_changes_no_other_one(self):
        deeds = [("put", "bb"), ("drop", 0), ("undo",), ("redo",), ("turn", 0, "aa"), ("fill",)]
        for is_first in [True, False]:
            desk = desk_of("ab", ["a", "b", "ab"])
            desk.undo()
            twin = desk.twin()
            other = twin.twin()
            busy, calm = (desk, twin) if is_first else (twin, desk)
            for deed in deeds:
                busy.attempt([deed])
                self.assertEqual([told_of(calm), told_of(other)], [["a", "b"]] * 2)
            if is_first:
                check_error(self, NothingLeft, ["undo"], calm.undo)
            else:
                calm.redo()
                self.assertEqual(told_of(calm), ["a", "b", "ab"])

    def test_desks_stay_apart(self):
        one, other = Desk("ab"), Desk("ab")
        one.put("a")
        self.assertEqual([len(one), len(other)], [1, 0])
        check_error(self, NothingLeft, ["undo"], other.undo)
        third = copy.deepcopy(one)
        third.put("b")
        self.assertEqual(told_of(one), ["a"])


if __name__ == "__main__":
    unittest.main()

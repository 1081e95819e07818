"""[64]: when what a wire lets brings a reader right again, and texts that keep two standings apart."""

import copy
import itertools
import random
import unittest
from unittest import mock

from onewayread.books import book, words
from onewayread.errors import NotABook, NotAWire, NotFull, NotPlain, NothingLeft, Unlike
from onewayread.healing import heals, is_stays, stays
from onewayread.looms import Loom, met
from onewayread.readers import go, meeting, standings
from onewayread.wires import wire_of

from tests.helpers import TimedCase, all_kinds, check_error, check_judge, spoilt_inside
from tests.plain_books import NO_BOOKS, plain_go, plain_standings, some_plain_words
from tests.plain_rests import plain_met
from tests.plain_wires import EMPTY, FULL, GOLDEN, NO_WIRES, SHORT, great_wire, plain_end, plain_texts, some_wire

PLAIN = book("ab", ["b", "aa", "ab"])
EVEN = book("ab", ["aa", "ab", "ba", "bb"])
SINGLE = book("ab", ["b", "a"])
LONE = book("a", ["a" * 12])
NOT_PLAIN = [book("ab", ["a", "ab", "b"]), book("ab", ["a", "b", "b"]), book("ab", ["ab", "a"])]
NOT_FULL = [book("ab", ["a"]), book("ab", ["aa", "b"]), book("ab", ["a" * 12, "b"])]


def plain_heals(a_book, wire, most):
    """The number of signs if it is at most so many: by the sets of standings behind all rows, else None."""
    told, signs = words(a_book), a_book.signs
    table = {(place, sign): plain_go(told, place, sign) for place in plain_standings(told) for sign in signs}
    layer = {(frozenset(plain_standings(told)), state) for state in plain_met(wire)}
    for length in range(most + 1):
        if all(len(places) == 1 for places, _ in layer):
            return length
        layer = {(frozenset(table[(place, sign)] for place in places), goal)
                 for places, end in layer for state, sign, goal in wire.arcs if state == end}
    return None


def plain_is_stays(a_book, wire, thing):
    if thing.__class__ is not tuple or len(thing) != 4:
        return False
    one, other, state, text = thing
    if state.__class__ is not int or any(part.__class__ is not str for part in [one, other, text]) or one == other:
        return False
    known = plain_standings(words(a_book))
    if one not in known or other not in known or state not in plain_met(wire):
        return False
    if not 1 <= len(text) <= 2000 or any(sign not in wire.signs for sign in text):
        return False
    ends = [plain_go(words(a_book), part, text) for part in [one, other]]
    return ends == [one, other] and plain_end(wire, state, text) == state


def some_pair(chance, most=4):
    signs = chance.choice(["a", "ab", "ab", "ab", "abc"])
    told = some_plain_words(chance, signs, chance.choice([4, 6, 8]), True, longest=4)
    return book(signs, told), some_wire(chance, most, signs)


class Heals(TimedCase):
    def test_numbers(self):
        self.assertEqual(heals(PLAIN, wire_of("ab", ["aa"])), 2)
        self.assertIsNone(heals(PLAIN, FULL))
        self.assertEqual(heals(PLAIN, wire_of("ab", ["a"])), 1)
        self.assertEqual(heals(PLAIN, wire_of("ab", ["aaaa"])), 4)
        self.assertIsNone(heals(EVEN, wire_of("ab", ["a"])))
        self.assertIsNone(heals(EVEN, GOLDEN))
        self.assertIsNone(heals(book("a", ["a" * 12]), Loom("a", [(0, "a", 0)])))

    def test_words_of_one_sign(self):
        chance = random.Random(64)
        for signs in ["a", "ab", "abcd"]:
            for _ in range(20):
                self.assertEqual(heals(book(signs, list(signs)), some_wire(chance, 5, signs)), 0)

    def test_a_wire_without_rows_of_so_many_signs(self):
        self.assertEqual(heals(EVEN, EMPTY), 1)
        self.assertEqual(heals(EVEN, SHORT), 3)
        self.assertEqual(heals(EVEN, Loom("ab", [(0, "a", 1), (0, "b", 1)])), 2)
        self.assertEqual(heals(EVEN, Loom("ab", [(at, "ab"[at % 2], at + 1) for at in range(63)])), 64)
        self.assertEqual(heals(SINGLE, EMPTY), 0)

    def test_all_met_states_count(self):
        # From 0 on "b" is all that may come; but a reader may begin where it reads "a" for ever.
        self.assertIsNone(heals(PLAIN, Loom("ab", [(0, "b", 5), (5, "a", 5)])))
        self.assertEqual(heals(PLAIN, Loom("ab", [(0, "b", 5), (5, "b", 5), (7, "a", 7), (7, "b", 0)])), 1)

    def test_against_the_sets_behind_all_rows(self):
        chance = random.Random(640)
        told = {}
        for _ in range(500):
            a_book, wire = some_pair(chance)
            answer = heals(a_book, wire)
            self.assertEqual(plain_heals(a_book, wire, 12 if answer is None else answer), answer)
            told[answer] = told.get(answer, 0) + 1
        for answer in [None, 0, 1, 2, 3]:
            self.assertGreater(told[answer], 5, told)

    def test_against_all_short_texts(self):
        chance = random.Random(641)
        for _ in range(60):
            a_book, wire = some_pair(chance, 3)
            answer = heals(a_book, wire)
            for length in range(5):
                texts = [text for state in plain_met(wire) for text, _ in plain_texts(wire, state, length)]
                ends = [{plain_go(words(a_book), place, text) for place in plain_standings(words(a_book))}
                        for text in texts]
                healed = all(len(places) == 1 for places in ends)
                self.assertIs(healed, answer is not None and length >= answer)

    def test_what_bars_more_heals_in_no_more_signs(self):
        chance = random.Random(642)
        fewer = 0
        for _ in range(150):
            a_book = book("ab", some_plain_words(chance, "ab", 6, True, longest=4))
            bars = ["".join(chance.choice("ab") for _ in range(chance.randint(2, 4))) for _ in range(4)]
            last = None
            for many in range(5):
                try:
                    answer = heals(a_book, wire_of("ab", bars[:many]))
                except NothingLeft:
                    break
                if last is not None:
                    self.assertLessEqual(answer, last)
                if many == 0:
                    self.assertEqual(answer, 0 if standings(a_book) == [""] else None)
                fewer += many > 0 and answer is not None and answer != last
                last = answer
        self.assertGreater(fewer, 20)

    def test_some_text_of_the_wire_is_a_meeting_one(self):
        chance = random.Random(643)
        many = 0
        for _ in range(200):
            a_book, wire = some_pair(chance, 3)
            answer = heals(a_book, wire)
            if answer is not None and answer <= 8:
                texts = [text for state in met(wire) for text, _ in plain_texts(wire, state, answer)]
                ends = [{go(a_book, place, text)[0] for place in standings(a_book)} for text in texts]
                self.assertTrue(all(len(places) == 1 for places in ends))
                if texts:
                    self.assertIsNotNone(meeting(a_book))
                    many += answer > 0
        self.assertGreater(many, 10)

    def test_the_greatest_books_and_wires(self):
        chance = random.Random(644)
        for signs, many in [("ab", 128), ("ab", 66), ("ab", 64), ("abcd", 200)]:
            a_book = book(signs, some_plain_words(chance, signs, 200, True))
            wire = great_wire(chance, signs=signs, arcs=many)
            answer, thing = heals(a_book, wire), stays(a_book, wire)
            self.assertIs(answer is None, thing is not None)
            if thing is None:
                self.assertIsNone(plain_heals(a_book, wire, answer - 1))
            else:
                self.assertIs(is_stays(a_book, wire, thing), True)
                self.assertTrue(plain_is_stays(a_book, wire, thing))


class Stays(TimedCase):
    def test_some(self):
        for a_book, wire in [(PLAIN, FULL), (EVEN, FULL), (EVEN, GOLDEN), (LONE, Loom("a", [(0, "a", 0)])),
                             (PLAIN, Loom("ab", [(0, "b", 5), (5, "a", 5)]))]:
            thing = stays(a_book, wire)
            self.assertTrue(plain_is_stays(a_book, wire, thing), thing)
            self.assertIs(is_stays(a_book, wire, thing), True)

    def test_none(self):
        self.assertIsNone(stays(PLAIN, wire_of("ab", ["aa"])))
        for wire in [EMPTY, SHORT]:
            self.assertIsNone(stays(EVEN, wire))
        self.assertIsNone(stays(SINGLE, FULL))

    def test_it_is_none_exactly_if_heals_is_a_number(self):
        chance = random.Random(645)
        told = {True: 0, False: 0}
        for _ in range(500):
            a_book, wire = some_pair(chance)
            answer, thing = heals(a_book, wire), stays(a_book, wire)
            self.assertIs(thing is None, answer is not None)
            told[thing is None] += 1
            if thing is not None:
                self.assertTrue(plain_is_stays(a_book, wire, thing), thing)
                self.assertIs(is_stays(a_book, wire, thing), True)
                self.assertIsNone(plain_heals(a_book, wire, len(thing[3])))
        self.assertGreater(min(told.values()), 100)

    def test_shorter_texts_where_a_walk_meets_a_long_one(self):
        # As if a text had not more than so many signs.
        chance = random.Random(646)
        shorter = 0
        for _ in range(200):
            a_book, wire = some_pair(chance, 5)
            thing = stays(a_book, wire)
            if thing is not None:
                for longest in [0, 1, 2, len(thing[3]) - 1, len(thing[3])]:
                    with mock.patch("onewayread.healing.LONGEST_TEXT", longest):
                        other = stays(a_book, wire)
                    self.assertLessEqual(len(other[3]), len(thing[3]))
                    self.assertTrue(plain_is_stays(a_book, wire, other), other)
                    shorter += len(other[3]) < len(thing[3])
        self.assertGreater(shorter, 20)

    def test_pairs_that_come_back_at_unlike_times(self):
        # Words of the lengths 2 and 3 only, and a round of signs on which standings come back after so many rounds.
        wire = Loom("ab", [(at, "ab"[at % 5 == 0], (at + 1) % 61) for at in range(61)])
        for told in [["aa", "ab", "baa", "bab", "bba", "bbb"], ["aaa", "aab", "aba", "abb", "ba", "bb"],
                     ["a" * many + "b" for many in range(1, 6)] + ["ba", "bb", "a" * 6]]:
            a_book = book("ab", [word for word in told if word != "b"])
            thing = stays(a_book, wire)
            self.assertIs(thing is None, heals(a_book, wire) is not None)
            if thing is not None:
                self.assertTrue(plain_is_stays(a_book, wire, thing))
                self.assertEqual(len(thing[3]) % 61, 0)

    def test_long_rounds(self):
        # Words of nine and of seven signs, and a wire that comes round in 64.
        wire = Loom("ab", [(at, "ab"[at % 3 == 0], (at + 1) % 64) for at in range(64)])
        for longest in [7, 9]:
            told = ["a" * many + "b" for many in range(longest)] + ["a" * longest]
            a_book = book("ab", told)
            self.assertIs(stays(a_book, wire) is None, heals(a_book, wire) is not None)
        six = book("ab", ["".join(word) for word in itertools.product("ab", repeat=6)])
        thing = stays(six, wire)
        self.assertTrue(plain_is_stays(six, wire, thing))
        self.assertEqual(len(thing[3]) % 64, 0)


class IsStays(TimedCase):
    def test_ordinary_things(self):
        self.assertIs(is_stays(PLAIN, FULL, ("", "a", 0, "aa")), True)
        self.assertIs(is_stays(PLAIN, FULL, ("a", "", 0, "aaaa")), True)
        self.assertIs(is_stays(PLAIN, FULL, ("", "a", 0, "a")), False)
        self.assertIs(is_stays(PLAIN, FULL, ("", "a", 0, "aab")), False)
        self.assertIs(is_stays(PLAIN, GOLDEN, ("", "a", 0, "aa")), True)
        self.assertIs(is_stays(PLAIN, GOLDEN, ("", "a", 1, "aa")), False)
        self.assertIs(is_stays(PLAIN, GOLDEN, ("", "a", 2, "aa")), False)
        self.assertIs(is_stays(EVEN, GOLDEN, ("", "a", 1, "ab")), False)
        self.assertIs(is_stays(EVEN, GOLDEN, ("a", "", 1, "ab")), False)
        self.assertIs(is_stays(EVEN, GOLDEN, ("", "b", 0, "ba")), False)
        self.assertIs(is_stays(EVEN, GOLDEN, ("", "a", 0, "ba")), True)

    def test_the_state_has_to_be_met_and_the_row_to_come_back_to_it(self):
        wire = Loom("ab", [(0, "b", 5), (5, "a", 5), (7, "a", 7)])
        self.assertIs(is_stays(PLAIN, wire, ("", "a", 5, "aa")), True)
        self.assertIs(is_stays(PLAIN, wire, ("", "a", 7, "aa")), False)
        self.assertIs(is_stays(PLAIN, wire, ("", "a", 0, "aa")), False)
        self.assertIs(is_stays(PLAIN, Loom("ab", [(0, "a", 1), (1, "a", 2), (2, "a", 0)]), ("", "a", 0, "aa")), False)

    def test_both_come_back_to_where_they_were(self):
        self.assertIs(is_stays(EVEN, FULL, ("", "a", 0, "a")), False)
        self.assertIs(is_stays(EVEN, FULL, ("a", "b", 0, "aa")), False)
        self.assertIs(is_stays(EVEN, FULL, ("", "a", 0, "ba")), True)
        self.assertIs(is_stays(EVEN, FULL, ("", "b", 0, "ba")), False)

    def test_the_empty_text_one_standing_twice_and_long_texts(self):
        self.assertIs(is_stays(PLAIN, FULL, ("", "a", 0, "")), False)
        self.assertIs(is_stays(PLAIN, FULL, ("", "", 0, "aa")), False)
        self.assertIs(is_stays(PLAIN, FULL, ("", "a", 0, "aa" * 1000)), True)
        self.assertIs(is_stays(PLAIN, FULL, ("", "a", 0, "aa" * 1001)), False)
        self.assertIs(is_stays(SINGLE, FULL, ("", "", 0, "a")), False)

    def test_things_of_all_kinds(self):
        for value in all_kinds():
            self.assertIs(is_stays(PLAIN, FULL, value), False)
        for thing in [["", "a", 0, "aa"], ("", "a", False, "aa"), ("", "a", 0.0, "aa"), ("", "a", 0, "aa", 0),
                      ("", "a", 0), ("", "a", 0, ["a", "a"]), ("", ["a"], 0, "aa"), (b"", b"a", 0, b"aa"),
                      ("", "c", 0, "aa"), ("", "aa", 0, "aa"), ("", "a", 0, "aA"), ("", "a", 0, "aa\n"),
                      ({}, [], 0, "aa"), ("", "a", {}, "aa"), ("", "a", [], {}), ("a", "a", 0, "aa")]:
            self.assertIs(is_stays(PLAIN, FULL, thing), False)

    def test_things_that_are_spoilt(self):
        for a_book, wire in [(PLAIN, FULL), (EVEN, GOLDEN), (EVEN, Loom("ab", [(0, "b", 5), (5, "a", 5)]))]:
            thing = stays(a_book, wire)
            things = [thing, (thing[1], thing[0], *thing[2:]), *spoilt_inside(thing)]
            told = check_judge(self, lambda wire, item: is_stays(a_book, wire, item),
                               lambda wire, item: plain_is_stays(a_book, wire, item), wire, things)
            self.assertGreater(min(told[True], told[False]), 1)

    def test_against_a_plain_judge(self):
        chance = random.Random(647)
        told = 0
        for _ in range(60):
            a_book, wire = some_pair(chance, 2)
            texts = [text for state in met(wire) for length in range(1, 5)
                     for text, _ in plain_texts(wire, state, length)]
            for _ in range(40):
                pair = chance.choices(standings(a_book), k=2)
                thing = (*pair, chance.choice(met(wire)), chance.choice(texts or ["a"]))
                answer = is_stays(a_book, wire, thing)
                self.assertIs(answer, plain_is_stays(a_book, wire, thing))
                told += answer
        self.assertGreater(told, 30)

    def test_things_are_not_changed(self):
        for thing in [("", ["a"], 0, ["a"]), ["", "a", 0, "aa"], ("", "a", [0], {"a": "a"})]:
            kept = copy.deepcopy(thing)
            is_stays(PLAIN, FULL, thing)
            self.assertEqual(thing, kept)


class Errors(TimedCase):
    def check(self, kind, a_book, wire):
        check_error(self, kind, [], heals, a_book, wire)
        check_error(self, kind, [], stays, a_book, wire)
        for thing in [("", "a", 0, "aa"), None, [], {}]:
            check_error(self, kind, [], is_stays, a_book, wire, thing)

    def test_errors_in_their_order(self):
        other = Loom("xyz", [(0, "x", 0)])
        for wire in [FULL, EMPTY, other, *NO_WIRES]:
            for loom in NO_BOOKS:
                self.check(NotABook, loom, wire)
            for a_book in NOT_PLAIN:
                self.check(NotPlain, a_book, wire)
            for a_book in NOT_FULL:
                self.check(NotFull, a_book, wire)
        for loom in NO_WIRES:
            for a_book in [PLAIN, SINGLE, book("xyz", ["x", "y", "z"])]:
                self.check(NotAWire, a_book, loom)
        for wire in [other, Loom("a", [(0, "a", 0)]), Loom("abc", FULL.arcs)]:
            for a_book in [PLAIN, EVEN, SINGLE]:
                self.check(Unlike, a_book, wire)

    def test_great_books_raise_no_limit(self):
        chance = random.Random(648)
        told = some_plain_words(chance, "ab", 200, True)
        self.check(NotFull, book("ab", told[:-1]), FULL)
        self.check(NotPlain, book("ab", told[1:] + [told[1]]), FULL)
        self.assertIsNone(heals(book("ab", told), FULL))


if __name__ == "__main__":
    unittest.main()

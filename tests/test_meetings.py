"""[42]: texts that lead all standings of a plain full book to one, and pairs that no text leads so."""

import copy
import itertools
import random
import unittest

from onewayread.books import book, words
from onewayread.errors import NotABook, NotFull, NotPlain
from onewayread.readers import go, is_never, meeting, never, standings

from tests.helpers import TimedCase, all_kinds, check_error, check_new_list, spoilt_inside
from tests.plain_books import NO_BOOKS, plain_go, plain_meeting, plain_never, plain_standings, some_plain_words

PLAIN = book("ab", ["b", "aa", "ab"])
EVEN = book("ab", ["aa", "ab", "ba", "bb"])
THREE = book("ab", ["".join(word) for word in itertools.product("ab", repeat=3)])
NOT_PLAIN = [book("ab", ["a", "ab", "b"]), book("ab", ["a", "b", "b"]), book("a", ["a", "a"])]
NOT_FULL = [book("ab", ["a"]), book("ab", ["aa", "b"]), book("abc", ["a", "b"]), book("ab", ["a" * 12, "b"])]


def plain_is_never(made, thing):
    if thing.__class__ not in (list, tuple) or len(thing) == 0:
        return False
    known = plain_standings(words(made))
    for item in thing:
        if item.__class__ is not tuple or len(item) != 2:
            return False
        if any(part.__class__ is not str or part not in known for part in item) or item[0] == item[1]:
            return False
    pairs = [set(item) for item in thing]
    return all({plain_go(words(made), part, sign) for part in pair} in pairs for pair in pairs for sign in made.signs)


class Meeting(TimedCase):
    def check(self, signs, told, text):
        made = book(signs, told)
        self.assertEqual(meeting(made), text)
        self.assertIs(never(made) == [], text is not None)

    def test_meeting_texts(self):
        self.check("ab", ["b", "aa", "ab"], "b")
        self.check("ab", ["a", "ba", "bb"], "a")
        self.check("ab", ["aa", "ab", "ba", "bba", "bbb"], plain_meeting("ab", ["aa", "ab", "ba", "bba", "bbb"], 8))
        self.check("abc", ["a", "b", "ca", "cb", "cc"], "a")

    def test_one_standing(self):
        self.check("ab", ["a", "b"], "")
        self.check("a", ["a"], "")
        self.check("abcd", ["d", "b", "a", "c"], "")

    def test_none(self):
        self.check("ab", words(EVEN), None)
        self.check("ab", words(THREE), None)
        for many in range(2, 13):
            self.check("a", ["a" * many], None)
        self.check("abc", ["".join(word) for word in itertools.product("abc", repeat=2)], None)
        # All lengths of words are even.
        self.check("ab", ["aa", "ab", "ba", "bbaa", "bbab", "bbba", "bbbb"], None)

    def test_shorter_first_then_ascending(self):
        self.check("abc", ["b", "c", "aa", "ab", "ac"], "b")
        self.check("ab", ["aa", "b", "ab"], "b")

    def test_against_a_search_over_all_short_texts(self):
        chance = random.Random(42)
        seen = {}
        for _ in range(250):
            signs = chance.choice(["ab", "ab", "abc"])
            told = some_plain_words(chance, signs, chance.choice([4, 6, 8]), True, longest=4)
            made = book(signs, told)
            text = meeting(made)
            if text is None or len(text) > 6:
                self.assertIsNone(plain_meeting(signs, told, 5))
            else:
                self.assertEqual(plain_meeting(signs, told, len(text)), text)
            if text is not None:
                self.assertEqual(len({go(made, standing, text)[0] for standing in standings(made)}), 1)
            seen[text and len(text)] = seen.get(text and len(text), 0) + 1
        for length in [None, "", 1, 2, 3]:
            self.assertGreater(seen.get(length, 0), 3, seen)

    def test_the_greatest_books(self):
        chance = random.Random(43)
        for signs in ["ab", "abc", "abcd"]:
            made = book(signs, some_plain_words(chance, signs, 200, True))
            text = meeting(made)
            if text is not None:
                self.assertEqual(len({go(made, standing, text)[0] for standing in standings(made)}), 1)
            self.assertIs(text is None, never(made) != [])
        # Words of seven and eight signs, and a few of one more or less.
        told = ["".join(word) for word in itertools.product("ab", repeat=7)]
        for word in told[:70] + told[-2:]:
            told.remove(word)
            told.extend([word + "a", word + "b"])
        self.assertEqual(len(told), 200)
        made = book("ab", told)
        text = meeting(made)
        self.assertEqual(len({go(made, standing, text)[0] for standing in standings(made)}), 1)
        self.assertEqual(never(made), [])


class Never(TimedCase):
    def test_pairs(self):
        self.assertEqual(never(EVEN), [("", "a"), ("", "b")])
        self.assertEqual(never(PLAIN), [])
        self.assertEqual(never(book("ab", ["a", "b"])), [])
        self.assertEqual(never(book("a", ["aaa"])), [("", "a"), ("", "aa"), ("a", "aa")])

    def test_each_pair_with_the_smaller_one_first_by_pythons_order(self):
        found = never(THREE)
        self.assertEqual(found, sorted(set(found)))
        self.assertEqual([pair for pair in found if not pair[0] < pair[1]], [])
        self.assertIn(("aa", "b"), found)
        self.assertNotIn(("a", "b"), found)

    def test_against_a_plain_search(self):
        chance = random.Random(420)
        many = 0
        for _ in range(150):
            signs = chance.choice(["a", "ab", "abc"])
            told = some_plain_words(chance, signs, chance.choice([4, 8, 12]), True, longest=4)
            if len(told) < 5:
                told = [word + tail for word in told for tail in told]
            made = book(signs, told)
            found = plain_never(signs, told)
            self.assertEqual(never(made), found)
            self.assertIs(meeting(made) is None, found != [])
            if found:
                self.assertIs(is_never(made, found), True)
                many += 1
        self.assertGreater(many, 20)

    def test_a_new_list_on_each_call(self):
        check_new_list(self, never, EVEN)
        check_new_list(self, never, PLAIN)


class IsNever(TimedCase):
    def test_either_order_lists_and_tuples(self):
        good = [("", "a"), ("", "b")]
        for thing in [good, [("a", ""), ("", "b")], [("b", ""), ("a", "")], [("", "a"), ("b", "")] * 3]:
            self.assertIs(is_never(EVEN, thing), True)
            self.assertIs(is_never(EVEN, tuple(thing)), True)

    def test_a_pair_that_leads_out_of_the_list(self):
        self.assertIs(is_never(EVEN, [("", "a")]), False)
        self.assertIs(is_never(EVEN, [("", "b")]), False)
        self.assertIs(is_never(EVEN, [("a", "b")]), False)
        self.assertIs(is_never(EVEN, [("", "a"), ("", "b"), ("a", "b")]), False)
        self.assertIs(is_never(PLAIN, [("", "a")]), False)

    def test_one_standing_twice_is_no_pair(self):
        same = [("", ""), ("a", "a"), ("b", "b")]
        self.assertIs(is_never(EVEN, same), False)
        self.assertIs(is_never(EVEN, same + never(EVEN)), False)
        self.assertIs(is_never(book("ab", ["a", "b"]), [("", "")]), False)

    def test_not_all_pairs_are_needed(self):
        made = book("a", ["a" * 4])
        for thing in [[("", "aa"), ("a", "aaa")], [("aa", ""), ("aaa", "a")], never(made)]:
            self.assertIs(is_never(made, thing), True)
        self.assertIs(is_never(made, [("", "aa")]), False)

    def test_the_empty_list(self):
        for made in [EVEN, PLAIN, book("ab", ["a", "b"])]:
            self.assertIs(is_never(made, []), False)
            self.assertIs(is_never(made, ()), False)

    def test_what_a_pair_has_to_be(self):
        good = [("", "a"), ("", "b")]
        wrong = [["", "a"], ("", ""), ("a", "a"), ("", "c"), ("", "aa"), ("", "a", "b"), ("",), "ab", ("", None),
                 (0, "a"), ("", b"a"), ("", ["a"]), (("",), "a"), {"": "a"}, None, 0, (), ("a", {"b"}), ("A", "a")]
        for item in wrong:
            self.assertIs(is_never(EVEN, [item]), False)
            self.assertIs(is_never(EVEN, good + [item]), False, item)
            self.assertIs(is_never(EVEN, [item] + good), False)

    def test_things_of_all_kinds(self):
        for value in all_kinds():
            self.assertIs(is_never(EVEN, value), False)
            self.assertIs(is_never(PLAIN, value), False)
        for thing in [iter([("", "a"), ("", "b")]), {("", "a"), ("", "b")}, {("", "a"): 1, ("", "b"): 1}]:
            self.assertIs(is_never(EVEN, thing), False)

    def test_lists_that_are_spoilt(self):
        for made in [EVEN, THREE]:
            for thing in [never(made), tuple(never(made))]:
                for wrong in spoilt_inside(thing):
                    self.assertIs(is_never(made, wrong), plain_is_never(made, wrong))

    def test_lists_of_some_pairs(self):
        chance = random.Random(421)
        for made in [EVEN, THREE, PLAIN, book("a", ["a" * 6])]:
            pairs = list(itertools.permutations(standings(made), 2))
            for _ in range(100):
                thing = chance.sample(pairs, chance.randint(1, len(pairs)))
                self.assertIs(is_never(made, thing), plain_is_never(made, thing))

    def test_things_are_not_changed(self):
        for thing in [[("b", ""), ("", "a")], [["", "a"], {}], [("", "a"), ("", "x")]]:
            kept = copy.deepcopy(thing)
            is_never(EVEN, thing)
            self.assertEqual(thing, kept)


class WrongBooks(TimedCase):
    def check(self, kind, made):
        check_error(self, kind, [], meeting, made)
        check_error(self, kind, [], never, made)
        for thing in [[("", "a")], [], None, 0]:
            check_error(self, kind, [], is_never, made, thing)

    def test_errors_in_their_order(self):
        for loom in NO_BOOKS:
            self.check(NotABook, loom)
        for made in NOT_PLAIN:
            self.check(NotPlain, made)
        for made in NOT_FULL:
            self.check(NotFull, made)
        self.check(NotPlain, book("ab", ["a", "aa"]))

    def test_great_books_raise_no_limit(self):
        chance = random.Random(422)
        told = some_plain_words(chance, "ab", 200, True)
        self.check(NotFull, book("ab", told[:-1]))
        self.check(NotPlain, book("ab", told + [told[0]]) if len(told) < 200 else book("ab", told[1:] + [told[1]]))
        self.assertEqual(is_never(book("ab", told), [("", "a")]), False)


if __name__ == "__main__":
    unittest.main()

"""[15]: a reader that takes a text sign by sign."""

import random
import unittest

from onewayread.errors import InvalidText, Stuck, UnknownState
from onewayread.looms import Loom
from onewayread.rows import sure
from onewayread.takers import Reader

from tests.helpers import TimedCase, all_kinds, check_error, check_new_list, no_states
from tests.plain_search import plain_sure, some_loom

LOOM = Loom("ab", [(0, "a", 0), (0, "ab", 1), (1, "b", 0), (0, "bb", 0)])
SURE = Loom("ab", [(0, "aab", 0), (0, "b", 0)])


def taken(loom, state, text):
    reader = Reader(loom, state)
    for sign in text:
        reader.take(sign)
    return reader


class TakerCase(TimedCase):
    def check_text(self, loom, state, text, every=1):
        """Compares with sure behind each sign, or behind each so many, up to where no row goes on."""
        reader, told = Reader(loom, state), []
        for at, sign in enumerate(text):
            if at % every == 0 and sure(loom, state, text[:at + 1]) is None:
                check_error(self, Stuck, [], reader.take, sign)
                self.assertEqual((reader.told(), reader.text()), (told, text[:at]))
                return
            told = told + reader.take(sign)
            self.assertEqual(reader.text(), text[:at + 1])
            self.assertEqual(reader.told(), told)
            if at % every == 0 or at == len(text) - 1:
                self.assertEqual(told, sure(loom, state, text[:at + 1]))


class Taking(TakerCase):
    def test_what_becomes_sure_by_each_sign(self):
        reader = Reader(SURE, 0)
        self.assertEqual([reader.take(sign) for sign in "baabb"], [[1], [0], [], [], [1]])
        self.assertEqual([reader.told(), reader.text()], [[1, 0, 1], "baabb"])

    def test_several_arcs_by_one_sign(self):
        loom = Loom("ab", [(0, "a", 1), (0, "a", 2), (1, "a", 1), (2, "a", 2), (1, "b", 1), (2, "bb", 3)])
        reader = Reader(loom, 0)
        self.assertEqual([reader.take(sign) for sign in "aaaaba"], [[], [], [], [], [], [0, 2, 2, 2, 4, 2]])
        self.assertEqual(reader.told(), [0, 2, 2, 2, 4, 2])

    def test_a_new_reader_has_taken_nothing(self):
        for state in range(64):
            reader = Reader(LOOM, state)
            self.assertEqual([reader.told(), reader.text()], [[], ""])

    def test_from_states_that_are_not_met(self):
        loom = Loom("ab", [(0, "a", 0), (7, "ab", 7), (7, "b", 63), (63, "a", 63)])
        self.assertEqual(taken(loom, 7, "ababbaa").told(), [1, 1, 2, 3, 3])
        self.assertEqual(taken(loom, 63, "aaa").told(), [3, 3, 3])

    def test_a_state_without_arcs_is_stuck_at_once(self):
        reader = Reader(LOOM, 5)
        for sign in "ab":
            check_error(self, Stuck, [], reader.take, sign)
        self.assertEqual([reader.told(), reader.text()], [[], ""])

    def test_equal_arcs_are_told_apart(self):
        reader = Reader(Loom("ab", [(0, "b", 0), (0, "a", 0), (0, "a", 0)]), 0)
        self.assertEqual([reader.take(sign) for sign in "bbabb"], [[0], [0], [], [], []])

    def test_a_word_of_twelve_signs_is_sure_at_its_first_one(self):
        reader = Reader(Loom("ab", [(0, "b", 0), (0, "a" * 12, 0)]), 0)
        self.assertEqual([reader.take(sign) for sign in "a" * 13], [[1]] + [[]] * 11 + [[1]])
        check_error(self, Stuck, [], reader.take, "b")
        self.assertEqual([reader.take(sign) for sign in "a" * 11 + "b"], [[]] * 11 + [[0]])

    def test_words_that_part_at_their_last_signs(self):
        loom = Loom("ab", [(0, "a" * 12, 0), (0, "a" * 11 + "b", 1), (1, "b", 0)])
        self.check_text(loom, 0, "a" * 23 + "bb" + "a" * 11 + "bb" + "a" * 11)
        self.check_text(loom, 0, "a" * 11 + "ba")

    def test_rows_of_unlike_lengths_that_come_together(self):
        loom = Loom("ab", [(0, "b", 0), (0, "a" * 12, 1), (0, "a", 2), (2, "a" * 11, 1), (1, "b", 0)])
        self.check_text(loom, 0, "bb" + "a" * 12 + "bb" + "a" * 12)

    def test_all_short_texts_of_some_looms(self):
        texts = [""]
        for text in texts:
            if len(text) < 6:
                texts.extend([text + "a", text + "b"])
        arcs = [(0, "a", 0), (0, "ab", 1), (1, "b", 0), (0, "bb", 0), (1, "ba", 1), (0, "a", 1)]
        for loom in [LOOM, SURE, Loom("ab", arcs), Loom("ab", [(0, "ba", 0), (0, "bab", 0), (0, "ab", 0)])]:
            for text in texts:
                self.check_text(loom, 0, text)
                self.check_text(loom, 1, text)

    def test_many_small_looms_against_sure_and_a_plain_search(self):
        chance = random.Random(15)
        seen = {"told": 0, "open": 0, "stuck": 0, "late": 0}
        for _ in range(400):
            loom, states = some_loom(chance)
            state = chance.choice(states)
            reader, told = Reader(loom, state), []
            for _ in range(30):
                sign = chance.choice(loom.signs)
                wanted = sure(loom, state, reader.text() + sign)
                if len(reader.text()) < 4:
                    self.assertEqual(wanted, plain_sure(loom, state, reader.text() + sign))
                if wanted is None:
                    kept = reader.text()
                    check_error(self, Stuck, [], reader.take, sign)
                    self.assertEqual((reader.told(), reader.text()), (told, kept))
                    seen["stuck"] += 1
                    continue
                numbers = reader.take(sign)
                told = told + numbers
                self.assertEqual((told, reader.told()), (wanted, wanted), (loom.arcs, state, reader.text()))
                seen["late" if len(numbers) > 1 else "told" if numbers else "open"] += 1
        self.assertEqual([kind for kind in seen if seen[kind] < 10], [], seen)


class LongTexts(TakerCase):
    def test_two_roads_that_part_late(self):
        loom = Loom("ab", [(0, "a", 1), (1, "a", 1), (1, "aa", 1), (0, "a", 2), (2, "a", 2), (2, "b", 2)])
        reader = taken(loom, 0, "a" * 1999)
        self.assertEqual(reader.told(), [])
        self.assertEqual(reader.take("b"), [3] + [4] * 1998 + [5])

    def test_two_lone_roads_that_part_late(self):
        loom = Loom("ab", [(0, "a", 1), (1, "a", 1), (0, "a", 2), (2, "aa", 2), (2, "ab", 2)])
        reader = taken(loom, 0, "a" * 1998)
        self.assertEqual(reader.told(), [])
        self.assertEqual(reader.take("b"), [2] + [3] * 998 + [4])

    def test_roads_that_part_again_and_again(self):
        # By how many signs back the roads part differs each time.
        loom = Loom("ab", [(0, "a", 1), (1, "a", 1), (1, "b", 0), (0, "a", 2), (2, "a", 2), (2, "bb", 0)])
        chance = random.Random(16)
        text = ""
        while len(text) < 600:
            text += "a" * chance.choice([1, 2, 3, 5, 17, 40, 90]) + chance.choice(["b", "bb"])
        self.check_text(loom, 0, text, every=7)

    def test_many_roads_that_meet_in_turn(self):
        # Each pair of roads has a state of its own in which it comes together at each sign.
        arcs = [(0, "a", road) for road in range(1, 21)] + [(road, "a", road) for road in range(1, 21)]
        arcs += [(road, "a", 21 + road // 2) for road in range(1, 21)] + [(21 + at, "b", 21 + at) for at in range(11)]
        loom = Loom("ab", arcs)
        self.check_text(loom, 0, "a" * 300 + "bbb", every=30)
        reader = taken(loom, 0, "a" * 1990 + "b" * 10)
        self.assertEqual(reader.told(), [])

    def test_the_greatest_looms(self):
        chance = random.Random(17)
        words = ["a" * chance.randint(1, 12) for _ in range(200)]
        loom = Loom("a", [(chance.randrange(64), word, chance.randrange(64)) for word in words])
        self.check_text(loom, 0, "a" * 2000, every=400)
        loom = Loom("a", [(0, "a", 0)] * 200)
        self.check_text(loom, 0, "a" * 2000, every=999)
        arcs = [(state, sign, chance.randrange(64)) for state in range(64) for sign in "aab"]
        text = "".join(chance.choice("ab") for _ in range(2000))
        self.check_text(Loom("ab", arcs), 0, text, every=400)

    def test_two_thousand_signs_that_are_sure(self):
        loom = Loom("abcd", [(0, "a", 1), (1, "b", 0), (0, "cd", 0)])
        reader = taken(loom, 0, "ab" * 500 + "cd" * 500)
        self.assertEqual(reader.told(), [0, 1] * 500 + [2] * 500)
        self.assertEqual(reader.text(), "ab" * 500 + "cd" * 500)


class WrongSigns(TimedCase):
    def test_what_is_no_sign(self):
        reader = taken(SURE, 0, "ba")
        for value in all_kinds():
            if not (isinstance(value, str) and value in ["a", "b"]):
                check_error(self, InvalidText, [], reader.take, value)
        for text in ["c", "", "ab", "aa", "A", " ", "\n", "a ", "~", "a" * 2001, b"a", ["a"], ("a",), 0, None]:
            check_error(self, InvalidText, [], reader.take, text)
        self.assertEqual([reader.told(), reader.text()], [[1, 0], "ba"])
        self.assertEqual([reader.take(sign) for sign in "abb"], [[], [], [1]])

    def test_signs_of_the_loom_that_no_word_has(self):
        reader = Reader(Loom("abz", [(0, "a", 0)]), 0)
        check_error(self, Stuck, [], reader.take, "z")
        check_error(self, InvalidText, [], reader.take, "c")
        self.assertEqual(reader.take("a"), [0])

    def test_what_is_no_state(self):
        for value in no_states():
            check_error(self, UnknownState, [], Reader, LOOM, value)

    def test_as_it_was_behind_stuck(self):
        reader = taken(SURE, 0, "baa")
        for _ in range(3):
            check_error(self, Stuck, [], reader.take, "a")
            self.assertEqual([reader.told(), reader.text()], [[1, 0], "baa"])
        self.assertEqual(reader.take("b"), [])
        self.assertEqual([reader.take(sign) for sign in "ba"], [[1], [0]])
        self.assertEqual([reader.told(), reader.text()], [[1, 0, 1, 0], "baabba"])

    def test_stuck_where_several_rows_wait(self):
        loom = Loom("ab", [(0, "aab", 0), (0, "a", 1), (1, "ab", 1)])
        reader = taken(loom, 0, "aa")
        check_error(self, Stuck, [], reader.take, "a")
        self.assertEqual([reader.told(), reader.text()], [[], "aa"])
        self.assertEqual([reader.take(sign) for sign in "baba"], [[], [], [1, 2, 2], [2]])
        check_error(self, Stuck, [], reader.take, "a")
        self.assertEqual([reader.told(), reader.text()], [[1, 2, 2, 2], "aababa"])


class Twins(TimedCase):
    def test_a_twin_has_taken_the_same(self):
        reader = taken(LOOM, 0, "aab")
        twin = reader.twin()
        self.assertIsInstance(twin, Reader)
        self.assertIsNot(twin, reader)
        self.assertEqual([twin.told(), twin.text()], [reader.told(), "aab"])

    def test_what_one_takes_does_not_change_the_other(self):
        reader = taken(SURE, 0, "b")
        twin = reader.twin()
        self.assertEqual(reader.take("a"), [0])
        self.assertEqual([twin.told(), twin.text()], [[1], "b"])
        self.assertEqual([twin.take(sign) for sign in "bb"], [[1], [1]])
        self.assertEqual([reader.told(), reader.text()], [[1, 0], "ba"])
        self.assertEqual([reader.take(sign) for sign in "ab"], [[], []])
        self.assertEqual([twin.told(), twin.text()], [[1, 1, 1], "bbb"])

    def test_a_twin_is_stuck_alone(self):
        reader = taken(SURE, 0, "baa")
        twin = reader.twin()
        check_error(self, Stuck, [], twin.take, "a")
        self.assertEqual([reader.take("b"), reader.text(), twin.text()], [[], "baab", "baa"])

    def test_twins_at_each_sign_against_sure(self):
        chance = random.Random(18)
        loom = Loom("ab", [(0, "a", 1), (1, "a", 1), (1, "b", 0), (0, "a", 2), (2, "a", 2), (2, "bb", 0), (0, "b", 0)])
        readers = [Reader(loom, 0)]
        for _ in range(300):
            reader = chance.choice(readers)
            if chance.random() < 0.2:
                readers.append(reader.twin())
            sign = chance.choice("aab")
            wanted = sure(loom, 0, reader.text() + sign)
            if wanted is None:
                check_error(self, Stuck, [], reader.take, sign)
            else:
                reader.take(sign)
                self.assertEqual(reader.told(), wanted)
            for other in readers:
                self.assertEqual(other.told(), sure(loom, 0, other.text()))
        self.assertGreater(len(readers), 30)

    def test_twins_of_a_new_reader_keep_its_state(self):
        twin = Reader(LOOM, 1).twin()
        check_error(self, Stuck, [], twin.take, "a")
        self.assertEqual(twin.take("b"), [2])


class Lists(TimedCase):
    def test_told_is_a_new_list_on_each_call(self):
        for text in ["", "b", "baabb"]:
            check_new_list(self, taken(SURE, 0, text).told)

    def test_what_take_returns_is_the_caller_s_own(self):
        reader = Reader(SURE, 0)
        for sign in "baabb":
            reader.take(sign).append("spoilt")
        self.assertEqual(reader.told(), [1, 0, 1])

    def test_the_loom_is_as_it_was(self):
        loom = Loom("ab", [(0, "aab", 0), (0, "b", 0)])
        taken(loom, 0, "baabb")
        self.assertEqual(loom, SURE)


if __name__ == "__main__":
    unittest.main()

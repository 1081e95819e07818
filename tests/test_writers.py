"""[80] and [81]: writers, and their making."""

import copy
import random
import unittest

from onewayread.errors import InvalidNumber, LimitExceeded, NotAWire, NothingLeft
from onewayread.growth import grows
from onewayread.looks import look
from onewayread.looms import Loom, met
from onewayread.wires import wire_of
from onewayread.writers import is_writer, writer

from tests.helpers import TimedCase, all_kinds, check_error, check_judge, no_integers, spoilt_inside
from tests.plain_wires import EMPTY, FULL, GOLDEN, NO_WIRES, SHORT, great_wire, some_wire
from tests.plain_writers import SUMS, plain_is_writer, plain_writer_look

MADE = (Loom("ab", [(0, "aa", 0), (0, "ab", 0)]), (0,))
# For the golden wire: state 1 stands at its state 1, behind a b.
TWO = (Loom("ab", [(0, "aa", 0), (0, "ab", 1), (1, "aa", 0), (1, "ab", 1)]), (0, 1))


def some_made(chance):
    """A loom of words of one length that nearly is a writer of so many choices, with places, for a wire."""
    wire, span, choices = some_wire(chance, 3, "ab"), chance.randint(1, 2), chance.randint(1, 2)
    many = chance.randint(1, 3)
    places = tuple(chance.choice(met(wire)) for _ in range(many))
    arcs = []
    for state in range(many):
        for _ in range(choices):
            arcs.append((state, "".join(chance.choices("ab", k=span)), chance.randrange(many)))
    return wire, span, choices, (Loom("ab", arcs), places)


class IsWriter(TimedCase):
    def test_ordinary_things(self):
        self.assertIs(is_writer(FULL, 2, 2, MADE), True)
        self.assertIs(is_writer(FULL, 1, 2, MADE), False)
        self.assertIs(is_writer(FULL, 2, 1, MADE), False)
        self.assertIs(is_writer(GOLDEN, 2, 2, MADE), False)
        self.assertIs(is_writer(GOLDEN, 2, 2, TWO), True)
        self.assertIs(is_writer(FULL, 2, 2, TWO), False)
        self.assertIs(is_writer(FULL, 2, 2, (TWO[0], (0, 0))), True)
        self.assertIs(is_writer(FULL, 1, 1, (Loom("ab", [(0, "b", 0)]), (0,))), True)

    def test_the_signs_of_the_wire(self):
        self.assertIs(is_writer(Loom("abc", FULL.arcs), 2, 2, MADE), False)
        self.assertIs(is_writer(Loom("abc", FULL.arcs), 2, 2, (Loom("abc", MADE[0].arcs), (0,))), True)

    def test_places(self):
        for places in [(), (0, 0), (1,), (63,), (64,), (-1,), (False,), (0.0,), ("0",), ((0,),), [0], 0, {0: 0}]:
            self.assertIs(is_writer(FULL, 2, 2, (MADE[0], places)), False)
        for places in [(0, 0), (1, 1), (1, 0), (0,), (0, 1, 1), [0, 1]]:
            self.assertIs(is_writer(GOLDEN, 2, 2, (TWO[0], places)), False)

    def test_all_states_are_met_and_have_so_many_arcs(self):
        full = wire_of("ab", [])
        for arcs in [
                [(0, "aa", 0)], [(0, "aa", 0), (0, "ab", 0), (0, "ba", 0)], [(0, "aa", 0), (0, "ab", 1)],
                [(0, "aa", 0), (0, "ab", 1), (1, "aa", 0)], [(0, "aa", 0), (0, "ab", 0), (1, "aa", 0), (1, "bb", 0)],
                [(0, "aa", 2), (0, "ab", 2), (2, "aa", 0), (2, "bb", 0)], [(1, "aa", 1), (1, "ab", 1)]]:
            loom = Loom("ab", arcs)
            for many in [1, 2, 3]:
                self.assertIs(is_writer(full, 2, 2, (loom, (0,) * many)), False)
        right = Loom("ab", [(0, "aa", 0), (0, "ab", 1), (1, "aa", 0), (1, "bb", 0)])
        self.assertIs(is_writer(full, 2, 2, (right, (0, 0))), True)

    def test_words_of_so_many_signs(self):
        for word in ["b", "bbb", "bb" * 6]:
            self.assertIs(is_writer(FULL, 2, 2, (Loom("ab", [(0, "aa", 0), (0, word, 0)]), (0,))), False)
        self.assertIs(is_writer(FULL, 2, 2, (Loom("ab", [(0, "aa", 0), (0, "bb", 0)]), (0,))), True)

    def test_rows_of_the_wire_from_place_to_place(self):
        wire = Loom("ab", [(0, "a", 5), (5, "a", 0), (5, "b", 5), (9, "a", 9)])
        self.assertIs(is_writer(wire, 1, 1, (Loom("ab", [(0, "a", 1), (1, "b", 1)]), (0, 5))), True)
        self.assertIs(is_writer(wire, 1, 1, (Loom("ab", [(0, "a", 1), (1, "a", 1)]), (0, 5))), False)
        self.assertIs(is_writer(wire, 1, 1, (Loom("ab", [(0, "b", 1), (1, "b", 1)]), (0, 5))), False)
        self.assertIs(is_writer(wire, 1, 1, (Loom("ab", [(0, "a", 1), (1, "b", 1)]), (0, 0))), False)
        self.assertIs(is_writer(wire, 1, 1, (Loom("ab", [(0, "b", 0)]), (5,))), True)

    def test_the_first_place_is_met_in_the_wire(self):
        wire = Loom("ab", [(0, "a", 0), (9, "a", 9)])
        self.assertIs(is_writer(wire, 1, 1, (Loom("ab", [(0, "a", 0)]), (0,))), True)
        self.assertIs(is_writer(wire, 1, 1, (Loom("ab", [(0, "a", 0)]), (9,))), False)
        # Also if the other places are.
        wire = Loom("ab", [(0, "a", 0), (9, "a", 0)])
        self.assertIs(is_writer(wire, 1, 1, (Loom("ab", [(0, "a", 1), (1, "a", 1)]), (0, 0))), True)
        self.assertIs(is_writer(wire, 1, 1, (Loom("ab", [(0, "a", 1), (1, "a", 1)]), (9, 0))), False)

    def test_there_is_a_look(self):
        self.assertIs(is_writer(FULL, 2, 2, (Loom("ab", [(0, "aa", 0), (0, "aa", 0)]), (0,))), False)
        arcs = [(0, "a", 1), (0, "a", 2), (1, "a", 0), (1, "b", 0)]
        self.assertIs(is_writer(FULL, 1, 2, (Loom("ab", [*arcs, (2, "b", 2), (2, "a", 2)]), (0,) * 3)), False)
        right = Loom("ab", [(0, "a", 0), (0, "a", 1), (1, "b", 0), (1, "b", 1)])
        self.assertEqual(look(right), 1)
        self.assertIs(is_writer(FULL, 1, 2, (right, (0, 0))), True)

    def test_things_of_all_kinds(self):
        for value in all_kinds():
            for thing in [value, (value, value), [MADE[0], (0,)], (MADE[0], (0,), value), (MADE[0],), (value, (0,))]:
                self.assertIs(is_writer(FULL, 2, 2, thing), False)
            self.assertIs(is_writer(FULL, 2, 2, (MADE[0], value)), plain_is_writer(FULL, 2, 2, (MADE[0], value)))
            self.assertIs(is_writer(FULL, 2, 2, (MADE[0], (value,))), plain_is_writer(FULL, 2, 2, (MADE[0], (value,))))

    def test_things_that_are_spoilt(self):
        for wire, thing in [(FULL, MADE), (GOLDEN, TWO)]:
            things = [thing, *spoilt_inside(thing)]
            told = check_judge(self, lambda wire, item: is_writer(wire, 2, 2, item),
                               lambda wire, item: plain_is_writer(wire, 2, 2, item), wire, things)
            self.assertGreater(min(told[True], told[False]), 1)

    def test_drawn_looms_against_a_plain_judge(self):
        chance = random.Random(80)
        told = 0
        for _ in range(6000):
            wire, span, choices, thing = some_made(chance)
            answer = is_writer(wire, span, choices, thing)
            self.assertIs(answer, plain_is_writer(wire, span, choices, thing), (wire.arcs, span, choices, thing))
            told += answer
        self.assertGreater(told, 100)

    def test_writers_of_which_an_arc_is_spoilt(self):
        chance = random.Random(801)
        told = {True: 0, False: 0}
        for (total, choices), (wire, span) in SUMS.items():
            if total <= 64 and total * choices <= 200:
                loom, places = writer(wire, span, choices)
                for kind in range(15):
                    arcs = list(loom.arcs)
                    at, other = chance.randrange(len(arcs)), chance.randrange(len(arcs))
                    if kind % 3 == 0:
                        arcs[at], arcs[other] = arcs[other], arcs[at]
                    else:
                        arcs[at] = (arcs[at][0], arcs[other if kind % 3 == 1 else at][1], arcs[other][2])
                    thing = (Loom(loom.signs, arcs), places)
                    answer = is_writer(wire, span, choices, thing)
                    self.assertIs(answer, plain_is_writer(wire, span, choices, thing))
                    told[answer] += 1
        self.assertGreater(min(told.values()), 5)

    def test_great_looms(self):
        arcs = [(state, sign, (4 * state + at) % 50) for state in range(50) for at, sign in enumerate("abcd")]
        full = wire_of("abcd", [])
        self.assertIs(is_writer(full, 1, 4, (Loom("abcd", arcs), (0,) * 50)), True)
        twice = [(state, "ab"[at % 2], (4 * state + at) % 50) for state in range(50) for at in range(4)]
        self.assertIs(is_writer(full, 1, 4, (Loom("abcd", twice), (0,) * 50)), False)

    def test_things_are_not_changed(self):
        for thing in [(MADE[0], [0]), [MADE[0], (0,)], (MADE[0], ([0],))]:
            kept = copy.deepcopy(thing)
            is_writer(FULL, 2, 2, thing)
            self.assertEqual(thing, kept)


class Writer(TimedCase):
    def check(self, wire, span, choices):
        """Checks a writer, and returns it."""
        made = writer(wire, span, choices)
        self.assertTrue(plain_is_writer(wire, span, choices, made), (wire.arcs, span, choices, made))
        self.assertIs(is_writer(wire, span, choices, made), True)
        self.assertEqual([made.__class__, made[0].__class__, made[1].__class__], [tuple, Loom, tuple])
        # As the document tells: not more states than this, and a look within the number of splittings.
        total = sum(grows(wire, span, choices))
        self.assertLessEqual(len(made[1]), total)
        self.assertEqual(look(made[0]), plain_writer_look(made[0]))
        self.assertLess(look(made[0]), total)
        return made

    def test_some(self):
        for wire, span, choices in [(FULL, 2, 2), (FULL, 1, 2), (FULL, 6, 64), (GOLDEN, 1, 1), (GOLDEN, 2, 2),
                                    (GOLDEN, 3, 4), (GOLDEN, 5, 11), (Loom("a", [(0, "a", 0)]), 8, 1)]:
            self.check(wire, span, choices)

    def test_states_that_lead_where_less_is_carried_are_left(self):
        wire = Loom("ab", [(0, "a", 0), (0, "b", 5), (5, "a", 5), (5, "b", 5), (9, "a", 9), (9, "b", 9)])
        self.assertEqual(set(self.check(wire, 1, 2)[1]), {5})
        # Where rows do not lead on, nothing is worth anything.
        wire = Loom("abc", [(0, "a", 0), (0, "b", 0), (0, "c", 5), (5, "a", 7), (5, "b", 7)])
        self.assertEqual(set(self.check(wire, 1, 2)[1]), {0})

    def test_sums_at_the_limits(self):
        told = []
        for (total, choices), (wire, span) in SUMS.items():
            self.assertEqual(sum(grows(wire, span, choices)), total)
            if total > 64:
                check_error(self, LimitExceeded, [64], writer, wire, span, choices)
            elif total * choices > 200:
                check_error(self, LimitExceeded, [200], writer, wire, span, choices)
            else:
                told.append(look(self.check(wire, span, choices)[0]))
        self.assertGreater(max(told), 3)

    def test_equal_worths_at_the_limits(self):
        round_of = [Loom("abcd", [(at, sign, (at + 7 * number + 1) % many) for at in range(many)
                                  for number, sign in enumerate("abc")]) for many in [50, 64, 40, 29]]
        self.assertEqual(len(self.check(round_of[1], 1, 3)[1]), 64)
        self.check(round_of[1], 8, 1)
        self.check(round_of[1], 8, 3)
        check_error(self, LimitExceeded, [200], writer, round_of[1], 8, 4)
        self.check(round_of[0], 2, 4)
        check_error(self, LimitExceeded, [200], writer, round_of[0], 2, 5)
        self.check(round_of[2], 2, 5)
        self.check(round_of[3], 2, 6)
        check_error(self, LimitExceeded, [200], writer, round_of[3], 2, 7)

    def test_hills_that_have_to_be_split_often(self):
        looks = []
        for up in range(1, 5):
            arcs = [(at, "a", at + 1) for at in range(up)]
            arcs += [(at, sign, (at + 1) % (2 * up)) for at in range(up, 2 * up) for sign in "abcd"]
            for span, choices in [(1, 2), (2, 4), (3, 8)]:
                if sum(grows(Loom("abcd", arcs), span, choices)) * choices <= 200:
                    looks.append(look(self.check(Loom("abcd", arcs), span, choices)[0]))
        self.assertGreater(max(looks), 3)

    def test_drawn_wires(self):
        chance = random.Random(81)
        told = {kind: 0 for kind in ["made", "nothing", 64, 200]}
        looks = {}
        for _ in range(700):
            wire = some_wire(chance, chance.choice([3, 5, 8]))
            span, choices = chance.randint(1, 8), chance.choice([chance.randint(1, 64), chance.randint(1, 9)])
            kind = self.check_outcome(wire, span, choices)
            told[kind] += 1
            if kind == "made":
                many = look(writer(wire, span, choices)[0])
                looks[many] = looks.get(many, 0) + 1
        self.assertGreater(min(told["made"], told["nothing"]), 100, told)
        self.assertGreater(told[200], 3)
        self.assertGreater(len(looks), 1)

    def check_outcome(self, wire, span, choices):
        """Checks that there is a writer just where no error is told; returns what came out."""
        worths = grows(wire, span, choices)
        if worths is None:
            check_error(self, NothingLeft, ["writer"], writer, wire, span, choices)
            return "nothing"
        if sum(worths) > 64:
            check_error(self, LimitExceeded, [64], writer, wire, span, choices)
            return 64
        if sum(worths) * choices > 200:
            check_error(self, LimitExceeded, [200], writer, wire, span, choices)
            return 200
        self.check(wire, span, choices)
        return "made"

    def test_great_wires(self):
        chance = random.Random(82)
        for many, signs, arcs in [(64, "ab", 128), (64, "abcd", 200), (20, "abc", 60), (30, "ab", 60), (12, "ab", 20)]:
            wire = great_wire(chance, many, signs, arcs)
            for span in [1, 3, 8]:
                for choices in [1, 2, 3, 5, 10, 64]:
                    self.check_outcome(wire, span, choices)

    def test_wires_of_bars(self):
        for bars in [["bb"], ["bbb"], ["aa", "bb"], ["aba", "bab"], ["aaaa", "bbbb"], ["ab"], ["abab", "bbb", "aab"]]:
            for span in range(1, 9):
                for choices in [1, 2, 3, 4, 6, 8, 12, 16, 20]:
                    self.check_outcome(wire_of("ab", bars), span, choices)

    def test_it_is_a_new_one_of_the_same_kind_on_each_call(self):
        self.assertEqual(writer(GOLDEN, 3, 4), writer(GOLDEN, 3, 4))


class Errors(TimedCase):
    def check(self, kind, wire, span, choices):
        check_error(self, kind, [], writer, wire, span, choices)
        for thing in [MADE, None, (), {}]:
            check_error(self, kind, [], is_writer, wire, span, choices, thing)

    def test_wrong_spans_and_choices(self):
        for span in no_integers(1, 8):
            self.check(InvalidNumber, FULL, span, 2)
            self.check(InvalidNumber, EMPTY, span, None)
        for choices in no_integers(1, 64):
            self.check(InvalidNumber, FULL, 8, choices)
            self.check(InvalidNumber, EMPTY, 1, choices)

    def test_looms_that_are_no_wires(self):
        for loom in NO_WIRES:
            for span, choices in [(1, 2), (0, 2), (1, 65), (None, None), (9, True)]:
                self.check(NotAWire, loom, span, choices)

    def test_nothing_left(self):
        for wire, span, choices in [(EMPTY, 1, 1), (SHORT, 8, 1), (GOLDEN, 1, 2), (FULL, 1, 3), (FULL, 5, 33)]:
            check_error(self, NothingLeft, ["writer"], writer, wire, span, choices)


if __name__ == "__main__":
    unittest.main()

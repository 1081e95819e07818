"""[24]: rings, along which rows are covered for ever."""

import copy
import random
import unittest
from collections import Counter

from onewayread.looks import is_covered, is_ring, look, ring
from onewayread.looms import Loom
from onewayread.rows import end_of, is_row, text_of

from tests.helpers import TimedCase, all_kinds, check_judge, check_new_lists_inside, spoilt_inside
from tests.plain_rests import plain_is_ring, rows_of_arcs
from tests.plain_search import some_loom

ENDLESS = Loom("ab", [(0, "a", 0), (0, "ab", 0), (0, "bb", 0)])
ROADS = Loom("a", [(0, "a", 1), (0, "a", 2), (1, "a", 1), (2, "a", 2)])
# The two rows of this ring come back after unlike numbers of arcs.
UNLIKE = Loom("ab", [(0, "a", 1), (0, "ab", 2), (1, "ba", 4), (1, "bba", 1), (2, "b", 3), (3, "ab", 2), (3, "aa", 3)])
GOOD = (0, [0], [1], [2], [2])


def two_roads(one, other, more=()):
    """Two roads from 0, round so many states each, in words of so many signs."""
    (many, length), (beside, longer) = one, other
    arcs = [(0, "a", 1), (0, "a", many + 1)]
    arcs += [(1 + at, "a" * length, 1 + (at + 1) % many) for at in range(many)]
    arcs += [(1 + many + at, "a" * longer, 1 + many + (at + 1) % beside) for at in range(beside)]
    return Loom("ab", arcs + list(more))


class Ring(TimedCase):
    def check(self, loom):
        """Checks that there is a ring, and that it is one by what it says of rows that go round several times."""
        told = ring(loom)
        self.assertIs(is_ring(loom, told), True, loom.arcs)
        self.assertIs(plain_is_ring(loom, told), True)
        self.assertEqual([value.__class__ for value in told], [int] + [list] * 4)
        state, row, other, again, more = told
        for times in range(6):
            one, longer = row + times * again, other + times * more
            if len(one) <= 2000 and len(longer) <= 2000:
                self.assertIs(is_covered(loom, (state, one, longer)), True)
                self.assertEqual(end_of(loom, state, one), end_of(loom, state, row))
        self.assertIsNone(look(loom))
        return told

    def test_rings(self):
        for loom in [ENDLESS, ROADS, UNLIKE]:
            self.check(loom)
        self.check(Loom("ab", [(0, "a", 0), (0, "ab", 0), (0, "ba", 0)]))
        self.check(Loom("a", [(0, "a", 0), (0, "a", 0)]))
        self.check(Loom("a", [(0, "a" * 12, 0), (0, "a" * 11, 0)]))
        self.check(Loom("ab", [(0, "a", 5), (5, "a", 5), (5, "a", 6), (6, "a", 6)]))

    def test_where_the_rows_change_their_roles(self):
        # The rest b comes back by one step, on which the row behind comes ahead.
        state, row, other, again, more = self.check(ENDLESS)
        self.assertEqual([state, row, other], [0, [0], [1]])
        self.assertEqual([set(again), set(more), len(again)], [{2}, {2}, len(more)])

    def test_no_ring(self):
        for signs, arcs in [
            ("a", [(0, "a", 0)]), ("ab", [(0, "a", 0), (0, "b", 0)]), ("a", [(0, "a", 1), (0, "a", 1)]),
            ("a", [(0, "a", 1), (0, "a", 2), (1, "a", 1)]), ("ab", [(0, "a", 0), (5, "a", 5), (5, "a", 5)]),
            ("ab", [(0, "a", 1), (0, "a", 2), (1, "a", 3), (2, "a", 4), (3, "a", 3), (4, "b", 4)]),
        ]:
            self.assertIsNone(ring(Loom(signs, arcs)))
            self.assertIsNotNone(look(Loom(signs, arcs)))

    def test_where_most_ways_come_to_an_end(self):
        # Rounds that rests do not lead round, and long ways on which nothing lasts.
        arcs = [(0, "a", 1), (0, "ab", 2), (1, "b", 3), (3, "a", 3), (2, "b", 2)]
        self.assertIsNone(ring(Loom("ab", arcs)))
        arcs = [(state, "a" * step, state + step) for state in range(60) for step in [1, 2] if state + step < 60]
        self.assertIsNone(ring(Loom("ab", arcs)))
        loom = Loom("ab", arcs + [(59, "b", 60), (60, "b", 61), (59, "b", 62), (61, "b", 61), (62, "b", 62)])
        self.check(loom)
        loom = Loom("ab", arcs + [(59, "b", 60), (58, "ab", 62), (60, "b", 60), (62, "b", 62)])
        self.check(loom)

    def test_behind_rows_that_cover_for_long(self):
        line = [(state, "a", state + 1) for state in range(1, 60) if state != 30]
        roads = [(0, "a", 1), (0, "a", 31), (30, "ab", 30), (60, "a", 61), (61, "ba", 61)]
        told = self.check(Loom("ab", roads + line))
        self.assertGreaterEqual(len(told[1]), 30)

    def test_long_rounds(self):
        state, row, other, again, more = self.check(two_roads((31, 1), (32, 1)))
        self.assertEqual([len(again), len(more)], [992, 992])
        state, row, other, again, more = self.check(two_roads((5, 12), (7, 11)))
        self.assertEqual(sorted([len(again), len(more)]), [385, 420])

    def test_rows_may_not_be_too_long(self):
        # Round both roads one row would take more than 2000 arcs; there are shorter rings beside, and behind.
        long = (29, 12), (25, 1)
        rounds = [(60, "b", 60), (61, "b", 61)]
        self.check(two_roads(*long, [(0, "b", 60), (0, "b", 61), *rounds]))
        for many in [0, 1, 25, 100, 150]:
            ends = (1 + many % 29, "b", 60), (30 + 12 * many % 25, "b", 61)
            told = self.check(two_roads(*long, [*ends, *rounds]))
            self.assertEqual(sorted([len(told[1]), len(told[2])])[0] > many, True)

    def test_many_small_looms(self):
        chance = random.Random(24)
        many = 0
        for _ in range(1500):
            loom, _ = some_loom(chance)
            if look(loom) is None:
                self.check(loom)
                many += 1
            else:
                self.assertIsNone(ring(loom))
        self.assertGreater(many, 300)

    def test_great_looms(self):
        chance = random.Random(240)
        for signs, longest in [("ab", 4), ("a", 12), ("ab", 12), ("abcd", 3)]:
            words = ["".join(chance.choice(signs) for _ in range(chance.randint(1, longest))) for _ in range(200)]
            loom = Loom(signs, [(chance.randrange(64), word, chance.randrange(64)) for word in words])
            if look(loom) is None:
                self.check(loom)
            else:
                self.assertIsNone(ring(loom))
        self.check(Loom("a", [(0, "a", 0)] * 200))
        arcs = [(state, sign, chance.randrange(64)) for state in range(64) for sign in "aab"]
        self.check(Loom("ab", arcs))

    def test_the_lists_are_new_ones(self):
        for loom in [ENDLESS, ROADS, UNLIKE]:
            check_new_lists_inside(self, ring, loom)


class IsRing(TimedCase):
    def test_lists_and_tuples(self):
        self.assertIs(is_ring(ENDLESS, GOOD), True)
        self.assertIs(is_ring(ENDLESS, (0, (0,), (1,), (2,), (2,))), True)
        self.assertIs(is_ring(ENDLESS, (0, (0, 2), [1, 2], (2, 2), [2, 2])), True)

    def test_again_is_not_empty(self):
        for again, more in [([], []), ((), ()), ([], [2]), ([2], [])]:
            self.assertIs(is_ring(ENDLESS, (0, [0], [1], again, more)), False)

    def test_the_texts_have_to_fit(self):
        arcs = [(0, "a", 1), (0, "ab", 2), (1, "b", 1), (2, "b", 2), (2, "a", 2), (1, "ba", 1), (2, "ab", 2)]
        loom = Loom("ab", arcs)
        self.assertIs(is_ring(loom, (0, [0], [1], [2], [3])), True)
        self.assertIs(is_ring(loom, (0, [0], [1], [2], [4])), False)
        self.assertIs(is_ring(loom, (0, [0], [1], [2, 2], [3])), False)
        self.assertIs(is_ring(loom, (0, [0], [1], [5], [6])), True)
        self.assertIs(is_ring(loom, (0, [0], [1], [5], [3, 4])), False)
        self.assertIs(is_ring(loom, (0, [0], [1], [5], [4, 3])), True)

    def test_the_rows_have_to_come_back(self):
        loom = Loom("a", [(0, "a", 1), (0, "a", 2), (1, "a", 3), (3, "a", 1), (2, "a", 4), (4, "a", 2)])
        self.assertIs(is_ring(loom, (0, [0], [1], [2, 3], [4, 5])), True)
        self.assertIs(is_ring(loom, (0, [0], [1], [2], [4])), False)
        self.assertIs(is_ring(loom, (0, [0], [1], [2, 3], [4])), False)
        self.assertIs(is_ring(loom, (0, [0], [1], [3, 2], [4, 5])), False)
        self.assertIs(is_ring(loom, (0, [0, 2], [1, 4], [3, 2], [5, 4])), True)
        # What comes back to 0 does not come back to where the rows end.
        loom = Loom("a", [(0, "a", 1), (0, "a", 2), (1, "a", 0), (2, "a", 0), (1, "a", 1), (2, "a", 2)])
        self.assertIs(is_ring(loom, (0, [0], [1], [2], [3])), False)
        self.assertIs(is_ring(loom, (0, [0], [1], [4], [5])), True)

    def test_one_row_that_does_not_come_back(self):
        loom = Loom("a", [(0, "a", 1), (0, "a", 2), (1, "a", 1), (2, "a", 3), (2, "a", 2), (1, "a", 3)])
        told = [is_ring(loom, (0, [0], [1], [again], [more])) for again in [2, 5] for more in [3, 4]]
        self.assertEqual(told, [False, True, False, False])

    def test_what_is_not_covered_is_no_ring(self):
        self.assertIs(is_ring(ENDLESS, (0, [1], [0], [2], [2])), False)
        self.assertIs(is_ring(ENDLESS, (0, [0], [0], [2], [2])), False)
        self.assertIs(is_ring(ENDLESS, (0, [], [1], [2], [2])), False)
        self.assertIs(is_ring(Loom("ab", [*ENDLESS.arcs[:2], (5, "a", 5)]), (5, [2], [2], [2], [2])), False)

    def test_the_state_has_to_be_met(self):
        arcs = [(5, "a", 6), (5, "a", 7), (6, "a", 6), (7, "a", 7)]
        thing = (5, [0], [1], [2], [3])
        self.assertIs(is_ring(Loom("ab", arcs + [(0, "a", 5)]), thing), True)
        self.assertIs(is_ring(Loom("ab", arcs + [(0, "a", 6)]), thing), False)

    def test_rows_of_two_thousand_arcs(self):
        thing = (0, [0] + [2] * 1999, [1] + [3] * 1999, [2] * 2000, [3] * 2000)
        self.assertIs(is_ring(ROADS, thing), True)
        for at, number in [(3, 2), (4, 3)]:
            self.assertIs(is_ring(ROADS, (*thing[:at], [number] * 2001, *thing[at + 1:])), False)
        self.assertIs(is_ring(ROADS, (0, [0], [1], [2] * 2001, [3] * 2001)), False)

    def test_things_of_all_kinds(self):
        for value in all_kinds():
            self.assertIs(is_ring(ENDLESS, value), False)
        for thing in [list(GOOD), GOOD[:3], GOOD[:4], (*GOOD, []), (GOOD,), (0, "a", "ab", "b", "b")]:
            self.assertIs(is_ring(ENDLESS, thing), False)

    def test_booleans_are_neither_states_nor_numbers(self):
        loom = Loom("a", [(0, "a", 0), (0, "a", 0)])
        self.assertIs(is_ring(loom, (0, [0], [1], [0], [1])), True)
        for thing in [(False, [0], [1], [0], [1]), (0, [False], [1], [0], [1]), (0, [0], [True], [0], [1]),
                      (0, [0], [1], [False], [1]), (0, [0], [1], [0], [True])]:
            self.assertIs(is_ring(loom, thing), False)

    def test_rings_that_are_spoilt(self):
        for loom in [ENDLESS, ROADS, UNLIKE]:
            state, *rows = ring(loom)
            for thing in [(state, *rows), (state, *[tuple(row) for row in rows])]:
                told = check_judge(self, is_ring, plain_is_ring, loom, spoilt_inside(thing))
                self.assertGreater(told[False], 800)

    def test_rings_of_short_rows_against_a_plain_judge(self):
        chance = random.Random(241)
        told = Counter()
        for _ in range(250):
            loom, _ = some_loom(chance)
            rows = [(row, end) for row, _, end in rows_of_arcs(loom, 0, 2) if row][:12]
            things = []
            for row, end in rows:
                for other, longer_end in rows:
                    rounds = [again for again, _, _ in rows_of_arcs(loom, end, 2)][:8]
                    others = [more for more, _, _ in rows_of_arcs(loom, longer_end, 2)][:8]
                    things += [(0, row, other, again, more) for again in rounds for more in others]
            told += check_judge(self, is_ring, plain_is_ring, loom, chance.sample(things, min(600, len(things))))
        self.assertGreater(min(told.values()), 100)

    def test_things_are_not_changed(self):
        for thing in [(0, [0], [1], [2], [2]), (0, [0], [1], [2], [None, {}]), (0, [0], [1], [], [])]:
            kept = copy.deepcopy(thing)
            is_ring(ENDLESS, thing)
            self.assertEqual(thing, kept)


if __name__ == "__main__":
    unittest.main()

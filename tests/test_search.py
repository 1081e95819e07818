"""readings, count and sure, compared with a slow and plain search over all rows."""

import unittest

from onewayread.errors import LimitExceeded
from onewayread.looms import Loom
from onewayread.rows import count, end_of, is_row, readings, sure, text_of

from tests.helpers import TimedCase, check_error
from tests.plain_search import cases, plain_readings, plain_sure, rows_up_to


class Compared(TimedCase):
    def test_many_small_looms(self):
        seen = {"none": 0, "some": 0, "many": 0, "sure": 0, "unsure": 0, "stuck": 0}
        for loom, state, text in cases(2, 1500):
            rows = plain_readings(loom, state, text)
            self.assertEqual(count(loom, state, text), len(rows), (loom.arcs, state, text))
            if len(rows) > 200:
                check_error(self, LimitExceeded, [200], readings, loom, state, text)
                seen["many"] += 1
            else:
                self.assertEqual(readings(loom, state, text), rows, (loom.arcs, state, text))
                seen["some" if rows else "none"] += 1
            told = plain_sure(loom, state, text)
            self.assertEqual(sure(loom, state, text), told, (loom.arcs, state, text))
            seen["stuck" if told is None else "sure" if told else "unsure"] += 1
        # Each kind of answer has to come up, or the comparison tells little.
        self.assertEqual([kind for kind in seen if seen[kind] < 10], [], seen)

    def test_rows_of_small_looms(self):
        for loom, state, text in cases(3, 150):
            for row, words, end in rows_up_to(loom, state, len(text))[:60]:
                self.assertIs(is_row(loom, state, row), True)
                self.assertEqual(text_of(loom, state, row), "".join(words))
                self.assertEqual(end_of(loom, state, row), end)
                for number, arc in enumerate(loom.arcs):
                    self.assertIs(is_row(loom, state, row + [number]), arc[0] == end)

    def test_all_short_texts_of_one_loom(self):
        loom = Loom("ab", [(0, "a", 0), (0, "ab", 1), (1, "b", 0), (0, "bb", 0), (1, "ba", 1), (0, "a", 1)])
        texts = [""]
        for text in texts:
            for state in [0, 1, 2]:
                self.assertEqual(readings(loom, state, text), plain_readings(loom, state, text))
                self.assertEqual(sure(loom, state, text), plain_sure(loom, state, text))
            if len(text) < 5:
                texts.extend([text + "a", text + "b"])


if __name__ == "__main__":
    unittest.main()

"""[100] and [101]: looms and rows as texts."""

import random
import unittest

from onewayread.errors import InvalidPage, InvalidRow
from onewayread.looms import Loom
from onewayread.pages import read_loom, read_row, write_loom, write_row
from onewayread.rows import readings
from onewayread.wires import wire_of
from onewayread.writers import writer

from tests.helpers import TimedCase, all_kinds, check_error, check_new_list, no_integers, no_sequences
from tests.plain_search import some_loom
from tests.plain_wires import great_wire

PAGE = "signs ab\narc 0 ab 1\narc 1 b 0\n"
SIGNS = "".join(chr(code) for code in range(32, 127)) + "\n"


def plain_read_loom(text):
    """The loom that a text tells, or the number of the first wrong line: by all lines that may stand there."""
    states = [str(state) for state in range(64)]
    begun = text.split("\n")
    signs = None
    arcs = []
    for at, line in enumerate(begun):
        is_ended = at < len(begun) - 1
        if at == len(begun) - 1 and line == "" and arcs:
            return Loom(signs, arcs)
        words = line.split(" ")
        if not is_ended:
            return at + 1
        if at == 0:
            if len(words) != 2 or words[0] != "signs" or not 1 <= len(words[1]) <= 4:
                return 1
            if sorted(set(words[1])) != list(words[1]) or not (words[1].isalpha() and words[1].islower()):
                return 1
            signs = words[1]
        else:
            if len(words) != 4 or words[0] != "arc" or words[1] not in states or words[3] not in states:
                return at + 1
            if not 1 <= len(words[2]) <= 12 or not set(words[2]) <= set(signs) or at > 200:
                return at + 1
            arcs.append((int(words[1]), words[2], int(words[3])))
    return len(begun)


def plain_read_row(text):
    if text == "-":
        return []
    numbers = text.split(" ")
    if len(numbers) > 2000 or any(number not in [str(at) for at in range(200)] for number in numbers):
        return None
    return [int(number) for number in numbers]


class WriteLoom(TimedCase):
    def test_lines(self):
        loom = Loom("ab", [(0, "ab", 1), (1, "b", 0)])
        self.assertEqual(write_loom(loom), PAGE)
        self.assertEqual(write_loom(Loom("abcz", [(63, "cba" * 4, 10)])), "signs abcz\narc 63 cbacbacbacba 10\n")
        self.assertEqual(write_loom(Loom("a", [(0, "a", 0)] * 200)), "signs a\n" + "arc 0 a 0\n" * 200)

    def test_what_is_read_of_a_written_text_is_equal(self):
        chance = random.Random(100)
        looms = [some_loom(chance)[0] for _ in range(200)] + [great_wire(chance), wire_of("abc", ["ab", "cc"])]
        looms.append(writer(wire_of("ab", ["bb"]), 5, 11)[0])
        for loom in looms:
            text = write_loom(loom)
            self.assertEqual(read_loom(text), loom)
            self.assertEqual(write_loom(read_loom(text)), text)
            self.assertEqual(plain_read_loom(text), loom)


class ReadLoom(TimedCase):
    def check(self, text, line):
        check_error(self, InvalidPage, [line], read_loom, text)
        self.assertEqual(plain_read_loom(text), line)

    def test_ordinary_texts(self):
        self.assertEqual(read_loom(PAGE), Loom("ab", [(0, "ab", 1), (1, "b", 0)]))
        self.assertEqual(read_loom("signs z\narc 63 zzzzzzzzzzzz 9\n"), Loom("z", [(63, "z" * 12, 9)]))
        self.assertEqual(read_loom("signs az\narc 0 a 0\narc 0 a 0\n"), Loom("az", [(0, "a", 0), (0, "a", 0)]))

    def test_what_is_no_string(self):
        for value in all_kinds():
            if not isinstance(value, str):
                check_error(self, InvalidPage, [0], read_loom, value)
        check_error(self, InvalidPage, [0], read_loom, PAGE.encode())
        check_error(self, InvalidPage, [0], read_loom, PAGE.split("\n"))

    def test_strings_of_all_kinds(self):
        for value in all_kinds():
            if isinstance(value, str):
                self.check(value, 1)

    def test_no_arc(self):
        self.check("", 1)
        self.check("signs ab\n", 2)

    def test_wrong_lines_of_signs(self):
        for line in ["", "signs", "signs ", "signs  ab", " signs ab", "signs ab ", "signs a b", "signs ba", "signs aa",
                     "signs aB", "signs AB", "signs a1", "signs abcde", "Signs ab", "sign ab", "signsab", "ab",
                     "signs\tab", "signs -", "arc 0 a 0", "signs ab\\n", "signs abc d", "signs a,b"]:
            self.check(line + "\narc 0 a 0\n", 1)
            self.check(line + "\n", 1)
            self.check(line, 1)
            self.check(line + "\nwrong\n", 1)

    def test_wrong_lines_of_arcs(self):
        for line in ["", "arc", "arc ", "arc 0", "arc 0 a", "arc 0 a ", "arc 0 a 0 ", " arc 0 a 0", "arc  0 a 0",
                     "arc 0  a 0", "arc 0 a  0", "arc 0 a 0 0", "Arc 0 a 0", "arcs 0 a 0", "0 a 0", "arc 64 a 0",
                     "arc 0 a 64", "arc -1 a 0", "arc 0 a -0", "arc 00 a 0", "arc 0 a 00", "arc 01 a 0", "arc 0 a 063",
                     "arc +1 a 0", "arc 0x1 a 0", "arc 1_0 a 0", "arc 0.0 a 0", "arc 1e1 a 0", "arc a a 0", "arc 0 a a",
                     "arc 0 c 0", "arc 0 A 0", "arc 0 ac 0", "arc 0 abababababab" + "a 0", "arc 0 0 0", "arc 100 a 0",
                     "arc 0 a " + "9" * 5000, "arc " + "0" * 5000 + " a 0", "arc 0\ta 0", "signs ab", "arc 0 a,b 0"]:
            self.check("signs ab\n" + line + "\n", 2)
            self.check("signs ab\narc 0 a 0\n" + line + "\n", 3)
            self.check("signs ab\n" + line + "\nwrong\n", 2)
            self.check("signs ab\narc 5 b 5\narc 0 a 0\n" + line + "\narc 0 b 0\n", 4)

    def test_lines_that_are_not_ended(self):
        self.check("signs ab", 1)
        self.check("signs ab\narc 0 a 0", 2)
        self.check(PAGE[:-1], 3)
        self.check(PAGE + " ", 4)
        self.check(PAGE + "\n", 4)
        self.check(PAGE + "arc 0 a 0", 4)
        self.check("signs ab\nwrong\narc 0 a 0", 2)
        for at in range(len(PAGE)):
            if at != PAGE.index("arc 1"):
                self.check(PAGE[:at], 1 + PAGE[:at].count("\n"))

    def test_two_hundred_lines_of_arcs(self):
        line = "arc 0 a 0\n"
        self.assertEqual(len(read_loom("signs ab\n" + line * 200).arcs), 200)
        for more in [line, line[:-1], "wrong", "wrong\n", "\n", line * 100, " "]:
            self.check("signs ab\n" + line * 200 + more, 202)
        self.check("signs ab\n" + line * 199 + "wrong\n" + line, 201)

    def test_each_sign_spoilt(self):
        told = 0
        for at in range(len(PAGE)):
            for text in [PAGE[:at] + PAGE[at + 1:], *[PAGE[:at] + sign + PAGE[at + 1:] for sign in SIGNS],
                         *[PAGE[:at] + sign + PAGE[at:] for sign in SIGNS]]:
                expected = plain_read_loom(text)
                if isinstance(expected, Loom):
                    told += 1
                    self.assertEqual(read_loom(text), expected)
                else:
                    self.check(text, expected)
        self.assertGreater(told, 20)

    def test_lines_spoilt(self):
        chance = random.Random(101)
        for _ in range(300):
            lines = write_loom(some_loom(chance)[0]).split("\n")
            at, other = chance.randrange(len(lines)), chance.randrange(len(lines))
            lines[at] = chance.choice([lines[other], "", lines[at] + " ", lines[at][1:], lines[at][:-1], "arc 3 a 3"])
            expected = plain_read_loom("\n".join(lines))
            if isinstance(expected, Loom):
                self.assertEqual(read_loom("\n".join(lines)), expected)
            else:
                self.check("\n".join(lines), expected)


class Rows(TimedCase):
    def test_written_rows(self):
        self.assertEqual([write_row([3, 0, 12]), write_row((3, 0, 12)), write_row([]), write_row(()), write_row([199])],
                         ["3 0 12", "3 0 12", "-", "-", "199"])

    def test_read_rows(self):
        self.assertEqual([read_row("-"), read_row("7 7"), read_row("0"), read_row("199 0 10")],
                         [[], [7, 7], [0], [199, 0, 10]])

    def test_what_is_read_of_a_written_row_is_equal(self):
        chance = random.Random(102)
        for many in [0, 1, 2, 10, 2000]:
            row = [chance.randrange(200) for _ in range(many)]
            self.assertEqual(read_row(write_row(row)), row)
            self.assertEqual(write_row(read_row(write_row(tuple(row)))), write_row(row))

    def test_two_thousand_numbers(self):
        self.assertEqual(read_row(" ".join(["199"] * 2000)), [199] * 2000)
        self.assertEqual(len(write_row([199] * 2000)), 7999)
        check_error(self, InvalidRow, [-1], write_row, [0] * 2001)
        check_error(self, InvalidRow, [-1], write_row, (0,) * 2001)
        check_error(self, InvalidPage, [0], read_row, " ".join(["0"] * 2001))

    def test_the_first_wrong_number_is_told(self):
        for value in no_integers(0, 199):
            for at in [0, 1, 7]:
                check_error(self, InvalidRow, [at], write_row, [0] * at + [value, None])
                check_error(self, InvalidRow, [at], write_row, (199,) * at + (value,))

    def test_what_is_no_row(self):
        for value in no_sequences():
            check_error(self, InvalidRow, [-1], write_row, value)

    def test_wrong_texts_of_rows(self):
        for text in ["", " ", "--", "- ", " -", "-1", "0 -", "- 0", "200", "0 200", "00", "0 01", "+1", "1.0", "1e1",
                     "0x1", "1_0", " 0", "0 ", "0  0", "0\n", "\n0", "0\t0", "0,0", "a", "[0]", "9" * 5000, "0" * 5000,
                     "0\n0"]:
            check_error(self, InvalidPage, [0], read_row, text)
            self.assertIsNone(plain_read_row(text))
        for value in all_kinds():
            expected = plain_read_row(value) if isinstance(value, str) else None
            if expected is None:
                check_error(self, InvalidPage, [0], read_row, value)
            else:
                self.assertEqual(read_row(value), expected)

    def test_each_sign_spoilt(self):
        text = "19 0 107"
        for at in range(len(text) + 1):
            for sign in SIGNS:
                for spoilt in [text[:at] + sign + text[at:], text[:at] + sign + text[at + 1:]]:
                    expected = plain_read_row(spoilt)
                    if expected is None:
                        check_error(self, InvalidPage, [0], read_row, spoilt)
                    else:
                        self.assertEqual(read_row(spoilt), expected)

    def test_rows_are_not_changed_and_lists_are_new(self):
        row = [3, 0, 12]
        write_row(row)
        self.assertEqual(row, [3, 0, 12])
        check_new_list(self, read_row, "3 0 12")
        check_new_list(self, read_row, "-")

    def test_rows_of_a_loom(self):
        loom = read_loom("signs ab\narc 0 a 0\narc 0 ab 1\narc 1 b 0\narc 0 bb 0\n")
        self.assertEqual([write_row(row) for row in readings(loom, 0, "abb")], ["0 3", "1 2"])


if __name__ == "__main__":
    unittest.main()

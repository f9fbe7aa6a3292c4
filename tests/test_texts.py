"""[60]: the texts of codes."""

import random
import unittest

from bestcodes.codes import Code
from bestcodes.errors import BadText
from bestcodes.making import packed, runs, table, times
from helpers import ring

PLAIN = "code ab\n0+1 1+20 .3\n1+0 0+0 .0"


class Told(unittest.TestCase):

    def test_the_text(self):
        self.assertEqual(str(Code("ab", [[(0, 1), (1, 20)], [(1, 0), (0, 0)]], [3, 0])), PLAIN)
        self.assertEqual(str(Code("c", [[(0, 0)]], [0])), "code c\n0+0 .0")
        self.assertEqual(str(packed("ab", 2, 1, {"a": 2, "b": 5})),
                         "code ab\n1+0 2+0 .0\n0+5 0+11 .3\n0+11 0+11 .6")

    def test_there_and_back(self):
        draw = random.Random(1)
        for _ in range(100):
            values, many = draw.choice(("a", "bz", "xyz")), draw.choice((1, 2, 9, 40, 41))
            rows = [[(draw.randrange(many), draw.choice((0, 7, 10 ** 9, 10 ** 30, 10 ** 59,
                                                         10 ** 60 - 1, 10 ** 60, 10 ** 61 + 5,
                                                         draw.randrange(10 ** 300))))
                     for _ in values] for _ in range(many)]
            code = Code(values, rows, [draw.randrange(100) for _ in range(many)])
            self.assertEqual(Code.read(str(code)), code)
            self.assertEqual(Code.read(text=str(code)).rows, code.rows)

    def test_numbers_in_the_text_are_those_of_python(self):
        for number in (0, 9, 10, 10 ** 59, 10 ** 60 - 1, 10 ** 60, 10 ** 60 + 1, 7 ** 1000):
            self.assertEqual(str(Code("a", [[(0, number)]], [number])),
                             f"code a\n0+{number} .{number}")

    def test_numbers_of_any_size(self):
        # longer than Python's own limit for the digits of a number
        code = table("a", {"a": 3})
        for _ in range(600):
            code = times(code, 10 ** 9, 2)
        self.assertEqual(str(code), "code a\n0+3" + "0" * 5400 + " ." + "2" + "000000002" * 599)


class Read(unittest.TestCase):

    def test_more_spaces(self):
        code = Code.read(PLAIN)
        self.assertEqual(Code.read("  code   ab  \n 0+1  1+20 .3   \n   1+0 0+0   .0 "), code)
        self.assertEqual(str(Code.read("  code   ab  \n 0+1  1+20 .3   \n1+0 0+0   .0 ")), PLAIN)

    def test_it_is_a_code(self):
        code = Code.read(PLAIN)
        self.assertEqual(code, Code("ab", [[(0, 1), (1, 20)], [(1, 0), (0, 0)]], [3, 0]))
        self.assertEqual((len(code), code.length("ab"), code.letters), (2, 21, "ab"))
        self.assertEqual([type(part) for part in (code.rows, code.rows[0], code.ends)], [tuple] * 3)
        self.assertEqual(Code.read(str(runs("abc", 9, {"a": 1, "b": 2, "c": 3}))),
                         runs("abc", 9, {"a": 1, "b": 2, "c": 3}))

    def test_the_limits_of_numbers_are_not_looked_at(self):
        big = "9" * 4000
        code = Code.read(f"code a\n0+{big} .{big}")
        self.assertEqual(code, Code("a", [[(0, 10 ** 4000 - 1)]], [10 ** 4000 - 1]))
        self.assertEqual(str(code), f"code a\n0+{big} .{big}")
        rows, ends = ring(100)
        self.assertEqual(Code.read(str(Code("a", rows, ends))), Code("a", rows, ends))

    def test_values_of_one_and_three(self):
        self.assertEqual(Code.read("code z\n0+1 .0").letters, "z")
        self.assertEqual(Code.read("code amz\n0+1 0+2 0+3 .0").letters, "amz")


class Wrong(unittest.TestCase):

    def wrong(self, line, text):
        with self.assertRaises(BadText) as told:
            Code.read(text)
        self.assertEqual(told.exception.line, line, text)

    def test_line_one(self):
        for head in ("", " ", "code", "ab", "code a b", "code ab c", "Code ab", "shape ab", "codeab",
                     "code ba", "code aa", "code aba", "code abcd", "code aB", "code A", "code a1",
                     "code 1", "code \u00e4", "code\tab", "code ab\t", "code ab\r", "code a,b",
                     "\tcode ab", "code code ab", "\ufeffcode ab"):
            self.wrong(1, head)
            self.wrong(1, head + "\n0+0 0+0 .0")
            self.wrong(1, head + "\nwrong\n")

    def test_no_state(self):
        self.wrong(2, "code ab")
        self.wrong(2, " code  a ")
        self.wrong(2, "code ab\n")

    def test_words(self):
        for line in ("", "   ", "0+0 .0", "0+0 0+0", "0+0 0+0 0+0 .0", "0+0 0+0 .0 .0", ".0 0+0 0+0",
                     "0+0 .0 0+0", "0+0 0 .0", "0+0 0.0 .0", "0+0 0+0 0", "0+0 0+0 10", "0+0 0+0 +5", "0+0 0+0 ,0",
                     "0+0 0+0 .", "0+0 + .0",
                     "0+0 0+ .0", "0+0 +0 .0", "0+0 0++0 .0", "0+0 0+0+0 .0", "0 + 0 0+0 .0",
                     "0+0 0+0 . 0", "0+0 0+0 ..0", "0+0 0+0 .+0", "0+0 0+-1 .0", "0+0 -0+1 .0",
                     "0+0 0+0 .-1", "0+0 0+1.5 .0", "0+0 0+x .0", "0+0 x+0 .0", "0+0 0+0 .x",
                     "0+0 0+1_0 .0", "0+0 0+0x1 .0", "0+0,0+0 .0", "good 0+0 .0", "0+0 0+0 0.",
                     "0+0\t0+0 .0", "0+0 0+0 .0\t", "0+0 0+0 .0\r", "0+0 0+\u0661 .0",
                     "0+0 0+\u00b2 .0", "0+0\u00a00+0 .0", "0+0 0+0 .\u0663", "\u0660+0 0+0 .0"):
            self.wrong(2, "code ab\n" + line)
            self.wrong(3, "code ab\n0+0 0+0 .0\n" + line)
            self.wrong(2, "code ab\n" + line + "\n0+0 0+0 .0")

    def test_leading_zeros(self):
        for line in ("00+0 0+0 .0", "0+00 0+0 .0", "0+0 01+0 .0", "0+0 0+01 .0", "0+0 0+0 .00",
                     "0+0 0+0 .07"):
            self.wrong(3, "code ab\n0+0 0+0 .0\n" + line)

    def test_goals_that_are_no_state(self):
        self.wrong(2, "code a\n1+0 .0")
        self.wrong(3, "code a\n1+0 .0\n2+0 .0")
        self.wrong(2, "code a\n" + "9" * 3000 + "+0 .0")
        # wrong lines count as states, too
        self.wrong(3, "code a\n2+0 .0\n\n0+0 .0")
        self.wrong(4, "code a\n2+0 .0\n1+0 .0\n")
        self.wrong(2, "code a\n3+0 .0\n1+0 .0\n")

    def test_long_numbers(self):
        long = "1" * 4001
        for line in (f"0+{long} .0", f"0+0 .{long}", f"{long}+0 .0", "0+" + "0" * 4001 + " .0"):
            self.wrong(3, "code a\n0+0 .0\n" + line)
        self.assertEqual(len(Code.read(f"code a\n0+{long[1:]} .{long[1:]}")), 1)

    def test_the_first_wrong_line(self):
        self.wrong(3, "code a\n0+0 .0\n9+0 .0\nx\n")
        self.wrong(4, "code a\n0+0 .0\n1+0 .0\n")
        self.wrong(5, PLAIN.replace("code ab", "code ab\n0+0 0+0 .0") + "\n")
        self.wrong(3, "code a\n0+0 .0\n\n0+0 .0")
        self.wrong(2, "code a\n\n\n")


if __name__ == "__main__":
    unittest.main()

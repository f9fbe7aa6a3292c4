"""[60]: the texts of shapes."""

import random
import unittest

from bestcodes.codes import Code
from bestcodes.errors import BadText
from bestcodes.shapes import Shape, changes, every, rising
from helpers import any_shape, ring_shape

PLAIN = "shape ab\n0 1 good\n1 0"


class Told(unittest.TestCase):

    def test_the_text(self):
        self.assertEqual(str(Shape("ab", [[0, 1], [1, 0]], [0])), PLAIN)
        self.assertEqual(str(Shape("c", [[0]], [])), "shape c\n0")
        self.assertEqual(str(every("amz")), "shape amz\n0 0 0 good")
        self.assertEqual(str(ring_shape(12)).split("\n")[10:], ["10", "11", "0"])

    def test_there_and_back(self):
        draw = random.Random(2)
        for _ in range(100):
            shape = any_shape(draw, draw.choice(("a", "bz", "xyz")), draw.choice((1, 2, 9, 40, 41, 150)))
            self.assertEqual(Shape.read(str(shape)), shape)
            self.assertEqual(str(Shape.read(text=str(shape))), str(shape))


class Read(unittest.TestCase):

    def test_more_spaces(self):
        for text in ("  shape   ab  \n 0  1   good   \n   1 0   ", "shape ab \n0 1 good\n1  0"):
            self.assertEqual(Shape.read(text), Shape.read(PLAIN))
            self.assertEqual(str(Shape.read(text)), PLAIN)

    def test_it_is_a_shape(self):
        shape = Shape.read(PLAIN)
        self.assertIsInstance(shape, Shape)
        self.assertEqual((shape.letters, shape.rows, shape.good), ("ab", ((0, 1), (1, 0)), (0,)))
        self.assertEqual([type(part) for part in (shape.rows, shape.rows[0], shape.good)], [tuple] * 3)
        self.assertEqual(Shape.read(str(changes("abc", 5))), changes("abc", 5))

    def test_values_of_one_and_three(self):
        self.assertEqual(Shape.read("shape z\n0 good"), every("z"))
        self.assertEqual(Shape.read("shape amz\n0 0 0").good, ())

    def test_the_limits_of_numbers_are_not_looked_at(self):
        shape = ring_shape(300, "ab", range(0, 300, 7))
        self.assertEqual(Shape.read(str(shape)), shape)


class Wrong(unittest.TestCase):

    def wrong(self, line, text):
        with self.assertRaises(BadText) as told:
            Shape.read(text)
        self.assertEqual(told.exception.line, line, text)

    def test_line_one(self):
        for head in ("", " ", "shape", "ab", "shape a b", "shape ab good", "Shape ab", "code ab", "shapeab",
                     "shape ba", "shape aa", "shape aba", "shape abcd", "shape aB", "shape a1", "shape \u00e4",
                     "shape\tab", "shape ab\r", "shape a,b", "\tshape ab", "shape shape ab", "good"):
            self.wrong(1, head)
            self.wrong(1, head + "\n0 0 good")
            self.wrong(1, head + "\nwrong\n")

    def test_no_state(self):
        self.wrong(2, "shape ab")
        self.wrong(2, " shape  a ")
        self.wrong(2, "shape ab\n")

    def test_words(self):
        for line in ("", "   ", "0", "good", "0 good", "0 0 0", "0 0 0 good", "good 0 0", "0 good 0", "0 0 good good",
                     "0 0 Good", "0 0 goods", "0 0 bad", "0 0good", "0 x", "0 -1", "0 +0", "0 0.0", "0+0 0+0 .0",
                     "0,0", "0 0 .", "0\t0", "0 0\t", "0 0\r", "0 0 good\r", "0 0\tgood", "0 \u0660", "0 \u00b2",
                     "0\u00a00", "0 1_0", "0 0x0", "0 good good"):
            self.wrong(2, "shape ab\n" + line)
            self.wrong(3, "shape ab\n0 0 good\n" + line)
            self.wrong(2, "shape ab\n" + line + "\n0 0 good")

    def test_leading_zeros(self):
        for line in ("00 0", "0 00 good", "0 01", "01 0"):
            self.wrong(3, "shape ab\n0 0\n" + line)

    def test_goals_that_are_no_state(self):
        self.wrong(2, "shape a\n1 good")
        self.wrong(3, "shape a\n1 good\n2")
        self.wrong(2, "shape a\n" + "9" * 3000)
        # wrong lines count as states, too
        self.wrong(3, "shape a\n2\n\n0")
        self.wrong(4, "shape a\n2\n1\n")
        self.wrong(2, "shape a\n3\n1\n")

    def test_long_numbers(self):
        for many in (4000, 4001, 5000):
            self.wrong(3, "shape a\n0\n" + "1" * many)
            self.wrong(3, "shape a\n0\n" + "0" * many)

    def test_the_first_wrong_line(self):
        self.wrong(3, "shape a\n0\n9\nx\n")
        self.wrong(4, "shape a\n0\n1 good\n")
        self.wrong(4, PLAIN + "\n")
        self.wrong(3, "shape a\n0\n\n0")
        self.wrong(2, "shape a\n\n\n")

    def test_texts_of_codes_are_none_of_shapes(self):
        self.wrong(1, str(Code("a", [[(0, 0)]], [0])))
        with self.assertRaises(BadText) as told:
            Code.read(str(rising("ab")))
        self.assertEqual(told.exception.line, 1)


if __name__ == "__main__":
    unittest.main()

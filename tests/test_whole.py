"""[1], [2], [3] over the whole program: what is told may be passed on, errors are of one kind."""

import random
import unittest

from bestcodes.codes import Code
from bestcodes.desks import Desk
from bestcodes.errors import CodeError
from bestcodes.joint import Joint
from bestcodes.making import summed, times
from bestcodes.pairwise import Rises, is_rises, longer
from bestcodes.rates import Rate, is_rate, rate
from bestcodes.several import Grows, Never, as_good, best, bound, is_best, least_lots, loss, needless
from bestcodes.shapes import Shape, changes, every, rising
from helpers import any_code, any_shape, flat, layers, prices, ring_code

HUGE = 10 ** 30


class PassedOn(unittest.TestCase):

    def test_papers_made_anew_of_their_attributes(self):
        draw = random.Random(101)
        met = set()
        for _ in range(60):
            codes = [any_code(draw, "ab", draw.randint(1, 2), HUGE) for _ in range(3)]
            shape = any_shape(draw, "ab", draw.randint(1, 4))
            *some, base = [Code(code.letters, code.rows, code.ends) for code in codes]
            again = Shape(shape.letters, shape.rows, shape.good)
            paper = best(codes[:-1], codes[-1], shape)
            met.add(type(paper))
            if isinstance(paper, Never):
                self.assertIs(is_best(some, base, again, Never(paper.parts)), True)
                self.assertEqual(bound(some, base, again, Never(paper.parts)),
                                 bound(codes[:-1], codes[-1], shape, paper))
            else:
                self.assertIs(is_best(some, base, again, Grows(paper.pieces, paper.last)), True)
            told = rate(codes, shape)
            if told is not None:
                met.add(Rate)
                anew = Rate(told.bits, told.per, told.pieces, told.last, told.parts)
                self.assertIs(is_rate([*some, base], again, anew), True)
            rises = longer(some[0], base, again)
            if isinstance(rises, Rises):
                self.assertIs(is_rises(some[0], base, again, Rises(rises.head, rises.ring, rises.tail)), True)
            self.assertEqual([vars(best(some, base, again)), needless(some, again), least_lots(some, again)],
                             [vars(paper), needless(codes[:-1], shape), least_lots(codes[:-1], shape)])
        self.assertEqual(met, {Never, Grows, Rate})

    def test_papers_keep_what_they_were_given(self):
        weights, heights = [1, 2], [0, 5]
        parts = [(weights, heights)]
        pieces = [("a", "b", 1)]
        papers = Never(parts), Grows(pieces, ""), Rate(1, 1, pieces, "", parts)
        weights.append(3)
        heights.clear()
        parts.append(((), ()))
        pieces.append(("", "a", 2))
        self.assertEqual([paper.parts for paper in (papers[0], papers[2])], [(((1, 2), (0, 5)),)] * 2)
        self.assertEqual([paper.pieces for paper in papers[1:]], [(("a", "b", 1),)] * 2)

    def test_rates_of_codes_that_are_made_of_a_rate(self):
        codes = [prices(a=2, b=5), prices(a=5, b=2)]
        told = rate(codes, rising("ab"))
        scaled = [times(code, told.per, 7) for code in codes]
        self.assertIs(as_good(scaled, flat("ab", told.bits), rising("ab")), True)
        self.assertIs(as_good(scaled, flat("ab", told.bits - 1), rising("ab")), False)
        self.assertIs(as_good([summed(*codes)], flat("ab", 7), rising("ab")), True)

    def test_far_beyond_the_bits_that_are_usual(self):
        many = 10 ** 400
        codes, base = [prices(a=2 * many, b=5 * many), prices(a=5 * many, b=2 * many)], flat("ab", 7 * many // 2)
        paper = best(codes, base, rising("ab"))
        self.assertIs(is_best(codes, base, rising("ab"), paper), True)
        self.assertEqual((type(paper), bound(codes, base, rising("ab"), paper)), (Never, 0))
        self.assertEqual(loss(codes, base, "ab"), 0)
        self.assertEqual(loss(codes, base, "aab"), -3 * many // 2)
        told = rate(codes, rising("ab"))
        self.assertEqual((told.bits, told.per), (7 * many // 2, 1))

    def test_desks_made_anew(self):
        desk = Desk(changes("ab", 0), {"y": prices(a=2, b=5), "x": prices(a=5, b=2), "z": flat("ab", 3)})
        desk.keep(("never", ("x", "y"), "z"))
        desk.keep(("rate", ("x", "y"), 2, 1))
        again = Desk(desk.shape, desk.codes)
        for guard in desk.guards:
            again.keep(guard)
        self.assertEqual((again.shape, again.codes, again.guards), (desk.shape, desk.codes, desk.guards))
        desk.put("x", flat("ab", 2))
        self.assertEqual(again.codes["x"], prices(a=5, b=2))
        self.assertEqual(len(Joint(tuple(desk.codes.values()), desk.shape).codes), 3)


class Errors(unittest.TestCase):

    def test_all_are_of_one_kind(self):
        desk = Desk(every("a"), {"x": flat("a", 1)})
        calls = [lambda: best([flat("a", 1)], flat("b", 1), every("a")), lambda: rate([ring_code(61)], every("a")),
                 lambda: needless([flat("abc", 1)], layers(7)), lambda: loss([flat("a", 1)], flat("a", 1), "b"),
                 lambda: least_lots([flat("a", 1)], every("b")), lambda: desk.drop("x"), desk.undo,
                 lambda: desk.keep(("rate", ("x",), 0, 1)), lambda: desk.tried(lambda given: given.redo()),
                 lambda: Desk(every("b"), desk.codes), lambda: desk.shape_to(every("ab"))]
        for call in calls:
            with self.assertRaises(CodeError) as error:
                call()
            self.assertIsInstance(error.exception, ValueError)
            self.assertEqual(type(error.exception).__bases__, (CodeError,))


if __name__ == "__main__":
    unittest.main()

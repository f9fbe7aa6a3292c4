"""[50]: rates, and papers about them."""

import inspect
import random
import unittest
from fractions import Fraction
from itertools import product
from math import gcd

from bestcodes.codes import Code
from bestcodes.errors import TooMany, Unlike
from bestcodes.joint import Joint
from bestcodes.making import distinct, packed, pairs, runs, summed, table, times
from bestcodes.rates import Rate, is_rate, rate
from bestcodes.several import Never, best
from bestcodes.shapes import Shape, both, changes, every, rising
from helpers import (any_code, any_shape, balanced_codes, finite_shape, flat, layers, prices, ring_code, ring_shape,
                     sparse_shape)
from looks import Look

HUGE = 10 ** 30


def fields(paper):
    return type(paper), vars(paper)


def changed(paper, **more):
    """The paper with some fields changed."""
    return Rate(**{**vars(paper), **more})


def richest_laps(look):
    """The greatest mean of a ring that meets no state twice, if there is one code."""
    best_mean = None

    def follow(begin, state, met, bits, many):
        nonlocal best_mean
        for value, goal in look.arrows[state]:
            more = bits + look.bits(state, value)[0]
            if goal == begin:
                mean = Fraction(more, many + 1)
                best_mean = mean if best_mean is None else max(best_mean, mean)
            elif goal > begin and goal not in met:
                follow(begin, goal, met | {goal}, more, many + 1)

    for begin in range(len(look.states)):
        follow(begin, begin, {begin}, 0, 0)
    return best_mean


class Rates(unittest.TestCase):

    def check(self, codes, shape):
        """Check a paper by a look of its own; the rate or None."""
        paper = rate(codes, shape)
        look = Look(codes, shape)
        if paper is None:
            self.assertEqual(look.laps, ())
            return None
        self.assertIsInstance(paper, Rate)
        self.assertTrue(look.right_rate(paper), fields(paper))
        self.assertIs(is_rate(codes, shape, paper), True)
        self.assertEqual(fields(rate(shape=shape, codes=tuple(codes))), fields(paper))
        self.assertEqual((gcd(paper.bits, paper.per), paper.per >= 1), (1, True))
        inner = [one for part in paper.parts for one in part]
        for told in (paper.pieces, paper.parts, *paper.pieces, *paper.parts, *inner):
            self.assertIs(type(told), tuple)
        if len(codes) == 1:
            self.assertEqual(richest_laps(look), Fraction(paper.bits, paper.per))
        # one code of that rate alone is as long as the best, and one that pays a little less is not
        scaled = [Code(code.letters, [[(goal, bits * paper.per) for goal, bits in row] for row in code.rows], code.ends)
                  for code in codes]
        self.assertIsInstance(best(scaled, flat(shape.letters, paper.bits), shape), Never)
        self.assertNotIsInstance(best(scaled, flat(shape.letters, paper.bits - 1), shape), Never)
        return paper.bits, paper.per

    def test_the_attributes(self):
        told = Rate(1, 2, (("a", "b", 3),), "c", (((1,), (0, 4)),))
        self.assertEqual(vars(told), {"bits": 1, "per": 2, "pieces": (("a", "b", 3),), "last": "c",
                                      "parts": (((1,), (0, 4)),)})
        told = Rate(parts=(), last="", pieces=(), per=1, bits=0)
        self.assertEqual(vars(told), {"bits": 0, "per": 1, "pieces": (), "last": "", "parts": ()})
        names_of = {Rate: "bits per pieces last parts", rate: "codes shape", is_rate: "codes shape paper"}
        for call, names in names_of.items():
            self.assertEqual(list(inspect.signature(call).parameters), names.split())

    def test_the_example(self):
        codes = [prices(a=2, b=5), prices(a=5, b=2)]
        told = [(told.bits, told.per) for told in (rate(codes, changes("ab", 0)), rate(codes, rising("ab")))]
        self.assertEqual(told, [(2, 1), (7, 2)])
        self.assertEqual([self.check(codes, shape) for shape in (changes("ab", 0), rising("ab"))], told)

    def test_codes_and_shapes_made_anyhow(self):
        draw = random.Random(91)
        met = []
        for _ in range(200):
            values = draw.choice(("a", "ab", "ab", "abc"))
            codes = [any_code(draw, values, draw.randint(1, 2), draw.choice((1, 9))) for _ in range(draw.randint(1, 3))]
            met.append(self.check(codes, any_shape(draw, values, draw.randint(1, 5))))
        for _ in range(100):
            codes = [table("abc", {value: draw.randint(0, 9) for value in "abc"}) for _ in range(draw.randint(1, 5))]
            met.append(self.check(codes, sparse_shape(draw, "abc", draw.randint(2, 9))))
        for many in range(1, 6):
            for _ in range(10):
                codes = balanced_codes(draw, "ab", draw.randint(1, 4), many)
                met.append(self.check(codes[:-1], any_shape(draw, "ab", draw.randint(1, 3))))
        self.assertGreater(len({told for told in met if told}), 60)
        self.assertGreater(met.count(None), 5)
        self.assertGreater(met.count((0, 1)), 5)

    def test_one_code(self):
        self.assertEqual(self.check([flat("ab", 7, HUGE)], every("ab")), (7, 1))
        self.assertEqual(self.check([runs("ab", 3, {"a": 6, "b": 4})], every("ab")), (5, 1))
        self.assertEqual(self.check([runs("ab", 3, {"a": 6, "b": 4})], changes("ab", 2)), (2, 1))
        self.assertEqual(self.check([runs("ab", 3, {"a": 5, "b": 4})], changes("ab", 2)), (5, 3))
        code = packed("ab", 5, 1, {"a": 1, "b": 3})
        self.assertEqual(self.check([code], rising("ab")), (16, 5))
        self.assertEqual(self.check([code], both(rising("ab"), changes("ab", 0))), (16, 5))

    def test_what_is_paid_at_ends_does_not_count(self):
        for end in (0, 5, HUGE):
            self.assertEqual(self.check([flat("a", 3, end), flat("a", 4, 0)], every("a")), (3, 1))
        # nor what is paid but so many times
        code = Code("ab", [[(0, 1), (1, HUGE)], [(1, 2), (1, 0)]], [HUGE, 7])
        self.assertEqual(self.check([code], every("ab")), (2, 1))
        self.assertEqual(self.check([code], Shape("ab", [[1, 2], [1, 1], [2, 3], [3, 3]], [0, 2])), (2, 1))

    def test_the_rate_0(self):
        draw = random.Random(92)
        self.assertEqual(self.check([flat("a", 0)], every("a")), (0, 1))
        self.assertEqual(self.check([flat("a", 0), flat("a", HUGE)], ring_shape(7)), (0, 1))
        self.assertEqual(self.check([prices(a=0, b=7), prices(a=7, b=0)], changes("ab", 1)), (7, 2))
        self.assertEqual(self.check([prices(a=0, b=7), prices(a=7, b=0)], changes("ab", 0)), (0, 1))
        self.assertEqual(self.check([Code("ab", [[(0, 0), (1, 9)], [(1, 0), (1, 0)]], [0, 9])], every("ab")), (0, 1))
        for _ in range(10):
            codes = [any_code(draw, "ab", 2), flat("ab", 0), any_code(draw, "ab", 2)]
            self.assertIn(self.check(codes, any_shape(draw, "ab", 3)), ((0, 1), None))

    def test_no_lap(self):
        codes = [flat("ab", 1), runs("ab", 2, {"a": 1, "b": 9})]
        for shape in (Shape("ab", [[0, 0]], []), finite_shape("ab", []), finite_shape("ab", ["", "abab", "b"])):
            self.assertIsNone(rate(codes, shape))
            for paper in (Rate(0, 1, (), "", ()), Rate(0, 1, (), "", (((1, 1), (0,)),)),
                          Rate(0, 1, (("", "a", 1),), "", ()), Rate(0, 1, (("", "", 1),), "", ())):
                self.assertIs(is_rate(codes, shape, paper), False)

    def test_fractions_in_lowest_terms(self):
        for some, many, per in product((4, 6, 9), (1, 2, 3), (2, 3, 5, 6)):
            rows = [[((state + 1) % per, some * many if state == 0 else 0)] for state in range(per)]
            code = Code("a", rows, [0] * per)
            told = Fraction(some * many, per)
            self.assertEqual(self.check([code], every("a")), (told.numerator, told.denominator))

    def test_two_tables(self):
        # by the rates of both: a and b are mixed so that both codes pay the same
        for one, two, three, four in ((1, 9, 8, 3), (0, HUGE, HUGE, 1), (5, 5, 7, 2), (1, 4, 2, 3), (7, 9, 1, 1)):
            codes = [prices(a=one, b=two), prices(a=three, b=four)]
            told = [Fraction(min(one, three)), Fraction(min(two, four))]
            if one - two - three + four != 0:
                part = Fraction(four - two, one - two - three + four)
                if 0 <= part <= 1:
                    told.append(part * one + (1 - part) * two)
            bits = max(told)
            self.assertEqual(self.check(codes, every("ab")), (bits.numerator, bits.denominator))

    def test_the_worst_chain_counts(self):
        codes = [prices(a=1, b=5, c=9), prices(a=9, b=7, c=2)]
        self.assertEqual(self.check(codes, changes("abc", 0)), (5, 1))
        self.assertEqual(self.check(codes, rising("abc")), (53, 9))
        # the pieces lie in one chain, though others have great bits, too
        shape = Shape("abc", [[3, 1, 2], [1, 3, 3], [3, 3, 2], [3, 3, 3]], [1, 2])
        self.assertEqual(self.check([prices(a=9, b=1, c=0), prices(a=0, b=1, c=9)], shape), (0, 1))

    def test_two_codes_alike(self):
        one, two = prices(a=1, b=4), prices(a=4, b=1)
        self.assertEqual([self.check(codes, every("ab")) for codes in ([one, one], [one, two, one], [two] * 5)],
                         [(4, 1), (5, 2), (4, 1)])

    def test_made_codes(self):
        costs, steps = {"a": 3, "b": 5}, {"aa": 1, "ab": 7, "ba": 2, "bb": 4}
        codes = [table("ab", costs), runs("ab", 2, costs), pairs("ab", costs, steps), packed("ab", 2, 1, costs),
                 distinct("ab", 2, 1, 3, [2, 4]), times(table("ab", costs), 10 ** 9, 10 ** 9)]
        codes.append(summed(codes[1], codes[0]))
        draw = random.Random(93)
        for shape in (every("ab"), rising("ab"), changes("ab", 1), ring_shape(2, "ab", (1,))):
            for _ in range(5):
                self.check(draw.sample(codes, draw.randint(1, 3)), shape)

    def test_great_bits_and_sixty_states(self):
        draw = random.Random(94)
        rows = [[(state + 1) % 60, (state + 11) % 60] for state in range(60)]
        codes = [Code("ab", [[(goal, draw.randint(0, HUGE)) for goal in row] for row in rows], [HUGE] * 60)
                 for _ in range(5)]
        self.assertEqual(len(Joint(codes, every("ab")).states), 60)
        for many in (1, 2, 5):
            paper = rate(codes[:many], every("ab"))
            self.assertTrue(Look(codes[:many], every("ab")).right_rate(paper))
            self.assertIs(is_rate(codes[:many], every("ab"), paper), True)
        self.assertEqual(self.check([ring_code(3, "a", HUGE), ring_code(4, "a", HUGE + 1)], ring_shape(5)), (HUGE, 1))

    def test_sixty_four_chains(self):
        codes = [prices(a=4, b=1, c=2), prices(a=2, b=1, c=0)]
        self.assertEqual(self.check(codes, layers(6)), (2, 1))
        self.assertEqual(len(rate(codes, layers(6)).parts), 64)

    def test_the_far_columns_come_near(self):
        codes, shape = [prices(a=2, b=5, c=3), prices(a=5, b=2, c=3)], rising("abc")
        paper = rate(codes, shape)
        many = 10 ** 20
        blocks = [block for word, ring, number in paper.pieces for block in ((word, 1), (ring, number * many))]
        blocks = [block for block in [*blocks, (paper.last, 1)] if block[0]]
        values = sum(len(word) * number for word, number in blocks)
        told = Fraction(min(code.far(blocks) for code in codes), values)
        self.assertEqual(round(told * 10 ** 9), round(Fraction(paper.bits, paper.per) * 10 ** 9))

    def test_arguments_stay(self):
        codes, shape = [prices(a=2, b=5), prices(a=5, b=2)], rising("ab")
        before = list(codes), str(shape)
        paper = rate(codes, shape)
        kept = fields(paper)
        is_rate(codes, shape, paper)
        self.assertEqual((codes, str(shape), fields(paper), fields(rate(codes, shape))), (*before, kept, kept))


class IsRate(unittest.TestCase):

    def changes(self, paper, values):
        """The paper with one thing changed."""
        for more in (-1, 1, HUGE, -HUGE, paper.bits, -paper.bits, -2 * paper.bits):
            yield changed(paper, bits=paper.bits + more)
        for more in (-1, 1, HUGE, -HUGE, paper.per, -paper.per, -2 * paper.per):
            yield changed(paper, per=paper.per + more)
        yield changed(paper, bits=2 * paper.bits, per=2 * paper.per)
        yield changed(paper, bits=-paper.bits, per=-paper.per)
        yield from self.changed_pieces(paper, values)
        parts = list(paper.parts)
        for told in (parts[:-1], [*parts, parts[-1]], [], parts[::-1]):
            yield changed(paper, parts=tuple(told))
        for at, (weights, heights) in enumerate(parts):
            told = [(weights, heights[:-1]), (weights, (*heights, 0)), ((*weights, 0), heights), (weights[1:], heights),
                    (tuple(0 for _ in weights), heights), (tuple(-weight for weight in weights), heights),
                    (tuple(3 * weight for weight in weights), tuple(3 * height for height in heights)),
                    (weights[::-1], heights), (weights, heights[::-1]), ((), ())]
            for k in range(len(weights)):
                told += [((*weights[:k], weight, *weights[k + 1:]), heights)
                         for weight in (-1, 0, weights[k] + 1, HUGE)]
            for k in range(len(heights)):
                told += [(weights, (*heights[:k], heights[k] + more, *heights[k + 1:]))
                         for more in (-HUGE, -1, 1, HUGE)]
            for part in told:
                yield changed(paper, parts=(*parts[:at], part, *parts[at + 1:]))

    def changed_pieces(self, paper, values):
        """The paper with one thing changed in its pieces, or the last word."""
        pieces = paper.pieces
        for told in ((), pieces[::-1], (*pieces, pieces[-1]), (*pieces, ("", "", 1)),
                     (*pieces, ("", pieces[-1][1], 1))):
            yield changed(paper, pieces=told)
        for told in (*values, "?", paper.last + "a", paper.last[:-1], "zz"):
            yield changed(paper, last=told)
        for at, (word, ring, number) in enumerate(pieces):
            yield changed(paper, pieces=pieces[:at] + pieces[at + 1:])
            told = [(word, ring, some) for some in (0, -1, -number, number + 1, number * HUGE, 1)]
            told += [(word, some, number) for some in ("", ring[:-1], ring + ring, ring[::-1], ring + "?", *values)]
            told += [(some, ring, number) for some in ("", "?", word + word, word[1:], word + ring, *values)]
            for piece in told:
                yield changed(paper, pieces=(*pieces[:at], piece, *pieces[at + 1:]))

    def test_one_thing_changed(self):
        draw = random.Random(95)
        met = [0, 0]
        for turn in range(90):
            if turn % 2:
                codes = [table("abc", {value: draw.randint(0, 3) for value in "abc"})
                         for _ in range(draw.randint(1, 3))]
                shape = sparse_shape(draw, "abc", draw.randint(2, 6))
            else:
                values = draw.choice(("a", "ab", "abc"))
                codes = [any_code(draw, values, draw.randint(1, 2), 3) for _ in range(draw.randint(1, 3))]
                shape = any_shape(draw, values, draw.randint(1, 4))
            paper = rate(codes, shape)
            look = Look(codes, shape)
            for told in self.changes(paper, shape.letters) if paper else ():
                right = look.right_rate(told)
                self.assertIs(is_rate(paper=told, shape=shape, codes=codes), right, fields(told))
                met[right] += 1
        self.assertGreater(min(met), 1000, met)

    def test_papers_that_are_surely_wrong(self):
        codes, shape = [prices(a=2, b=5), prices(a=5, b=2)], rising("ab")
        right = Rate(7, 2, (("", "a", 1), ("b", "b", 1)), "", (((1, 1), (0, 0)),))
        self.assertIs(is_rate(codes, shape, right), True)
        self.assertIs(is_rate(codes, shape, changed(right, parts=(((5, 5), (-3, -3)),))), True)
        self.assertIs(is_rate(codes, shape, changed(right, parts=(((1, 1), (0, HUGE)),))), True)
        self.assertIs(is_rate(codes, shape, changed(right, pieces=(("aa", "a", 9), ("abb", "b", 9)), last="bb")), True)
        for more in ({"bits": 14, "per": 4}, {"bits": 3, "per": 1}, {"bits": 4, "per": 1}, {"bits": -7, "per": -2},
                     {"bits": 7, "per": 0}, {"bits": 0, "per": 1}, {"bits": 0, "per": 0}, {"bits": 1, "per": 0},
                     {"bits": 7 * HUGE + 1, "per": 2 * HUGE}, {"bits": 7 * HUGE - 1, "per": 2 * HUGE},
                     {"pieces": ()}, {"pieces": (("", "a", 1),)}, {"pieces": (("b", "b", 1), ("", "a", 1))},
                     {"pieces": (("", "a", 2), ("b", "b", 1))}, {"pieces": (("", "a", 0), ("b", "b", 0))},
                     {"pieces": (("", "a", -1), ("b", "b", -1))},
                     {"pieces": (("", "a", 1), ("b", "b", 1), ("", "", 1))},
                     {"last": "a"}, {"last": "c"}, {"parts": ()}, {"parts": (((1, 1), (0, 0)),) * 2},
                     {"parts": (((1, 2), (0, 0)),)}, {"parts": (((0, 0), (0, 0)),)}, {"parts": (((-1, -1), (0, 0)),)},
                     {"parts": (((1, 1), (1, 0)),)}, {"parts": (((1, 1), (0,)),)}, {"parts": (((1, 1), (0, 0, 0)),)},
                     {"parts": (((1,), (0, 0)),)}, {"parts": (((1, 1, 0), (0, 0)),)}):
            self.assertIs(is_rate(codes, shape, changed(right, **more)), False, more)

    def test_the_rate_0_has_one_form(self):
        codes = [flat("a", 0)]
        for bits, per, told in ((0, 1, True), (0, 2, False), (0, 0, False), (0, -1, False), (0, HUGE, False),
                                (-1, 1, False), (1, 1, False), (1, HUGE, False)):
            paper = Rate(bits, per, (("", "a", 1),), "", (((1,), (0,)),))
            self.assertIs(is_rate(codes, every("a"), paper), told)

    def test_papers_of_any_size(self):
        codes, many = [flat("a", HUGE)], 10 ** 4000
        paper = Rate(HUGE, 1, (("a" * 9999, "a" * 9999, many),) * 3, "a", (((many,), (-many,)),))
        self.assertIs(is_rate(codes, every("a"), paper), True)
        self.assertIs(is_rate(codes, every("a"), changed(paper, parts=paper.parts * 3000)), False)
        self.assertIs(is_rate(codes, every("a"), changed(paper, bits=HUGE * many + 1, per=many)), False)


class Raises(unittest.TestCase):

    def calls(self, codes, shape):
        papers = (Rate(0, 1, (), "", ()), Rate(0, 0, (("?", "", 0),), "?", ()))
        return lambda: rate(codes, shape), *[lambda paper=paper: is_rate(codes, shape, paper) for paper in papers]

    def check_too_many(self, what, codes, shape):
        for call in self.calls(codes, shape):
            with self.assertRaises(TooMany) as told:
                call()
            self.assertEqual(told.exception.what, what)

    def test_unlike_comes_first(self):
        for codes, shape in (([flat("ab", 1)], every("a")), ([flat("a", 1), flat("b", 1)], every("a")),
                             ([ring_code(40), ring_code(39), flat("b", 1)], every("a")),
                             ([flat("abc", 1), flat("abd", 1)], layers(7))):
            for call in self.calls(codes, shape):
                with self.assertRaises(Unlike):
                    call()

    def test_too_many(self):
        self.check_too_many("states", [ring_code(61)], every("a"))
        self.check_too_many("states", [ring_code(3), ring_code(4), ring_code(7)], every("a"))
        self.check_too_many("states", [ring_code(8, "abc")], layers(7))
        for many in (1, 5):
            self.check_too_many("chains", [flat("abc", 1)] * many, layers(6, True))
            self.check_too_many("chains", [flat("abc", 1)] * many, layers(7))


if __name__ == "__main__":
    unittest.main()

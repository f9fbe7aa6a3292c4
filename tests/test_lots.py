"""[42]: codes that the others are as good as, and the least lots that are as good as all."""

import inspect
import random
import unittest
from itertools import combinations

from bestcodes.errors import TooMany, Unlike
from bestcodes.making import runs, table
from bestcodes.several import Never, as_good, best, least_lots, needless
from bestcodes.shapes import Shape, changes, every, rising
from helpers import (any_code, any_shape, balanced_codes, finite_shape, flat, layers, prices, ring_code, ring_shape,
                     sparse_shape)
from looks import Look

HUGE = 10 ** 30


def is_good(codes, chosen, other, shape):
    """Whether the chosen codes are as good as the other one, by a paper that is looked at here."""
    codes = [*[codes[at] for at in chosen], codes[other]]
    paper = best(codes[:-1], codes[-1], shape)
    look = Look(codes, shape)
    assert look.right_never(paper) if isinstance(paper, Never) else look.right_grows(paper)
    return isinstance(paper, Never)


def told_needless(codes, shape):
    many = range(len(codes))
    return tuple(at for at in many if len(codes) > 1 and is_good(codes, [one for one in many if one != at], at, shape))


def told_lots(codes, shape):
    many = range(len(codes))
    good = [lot for size in many for lot in combinations(many, size + 1)
            if all(is_good(codes, lot, other, shape) for other in many)]
    return tuple(sorted(lot for lot in good if not any(set(part) < set(lot) for part in good)))


class Lots(unittest.TestCase):

    def check(self, codes, shape):
        lots, lone = told_lots(codes, shape), told_needless(codes, shape)
        self.assertEqual((least_lots(codes, shape), needless(codes, shape)), (lots, lone))
        self.assertEqual((least_lots(shape=shape, codes=tuple(codes)), needless(shape=shape, codes=tuple(codes))),
                         (lots, lone))
        self.assertIs(type(least_lots(codes, shape)), tuple)
        return lots, lone

    def test_the_names_of_the_interface(self):
        for call in (needless, least_lots):
            self.assertEqual(list(inspect.signature(call).parameters), ["codes", "shape"])

    def test_codes_and_shapes_made_anyhow(self):
        draw = random.Random(81)
        met = []
        for _ in range(60):
            values = draw.choice(("a", "ab", "ab", "abc"))
            codes = [any_code(draw, values, draw.randint(1, 2), 4) for _ in range(draw.randint(1, 4))]
            met.append(self.check(codes, any_shape(draw, values, draw.randint(1, 4))))
        for _ in range(60):
            codes = [table("abc", {value: draw.randint(0, 3) for value in "abc"}) for _ in range(draw.randint(1, 5))]
            met.append(self.check(codes, sparse_shape(draw, "abc", draw.randint(2, 6))))
        for _ in range(30):
            codes = balanced_codes(draw, "ab", draw.randint(1, 3), draw.randint(1, 4), draw.randint(0, 1))
            met.append(self.check(codes, any_shape(draw, "ab", draw.randint(1, 3))))
        self.assertGreater(max(len(lots) for lots, _ in met), 3)
        self.assertGreater(max(len(lot) for lots, _ in met for lot in lots), 3)

    def test_two_that_are_alike(self):
        one, two = prices(a=1, b=4), prices(a=4, b=1)
        self.assertEqual(self.check([one, one], every("ab")), (((0,), (1,)), (0, 1)))
        self.assertEqual(self.check([one, two, one], every("ab")), (((0, 1), (1, 2)), (0, 2)))
        self.assertEqual(self.check([one, two, one, two], every("ab")),
                         (((0, 1), (0, 3), (1, 2), (2, 3)), (0, 1, 2, 3)))
        self.assertEqual(self.check([one] * 5, rising("ab")), (((0,), (1,), (2,), (3,), (4,)), (0, 1, 2, 3, 4)))

    def test_ascending_as_tuples(self):
        # the last one is as good as both others: (0, 1) stands ahead of (2,)
        one, two, both = prices(a=1, b=4, c=9), prices(a=4, b=1, c=9), prices(a=1, b=1, c=9)
        self.assertEqual(self.check([one, two, both], changes("abc", 0)), (((0, 1), (2,)), (0, 1, 2)))
        self.assertEqual(self.check([one, both, two], changes("abc", 0)), (((0, 2), (1,)), (0, 1, 2)))
        self.assertEqual(self.check([both, one, two], changes("abc", 0)), (((0,), (1, 2)), (0, 1, 2)))
        self.assertEqual(self.check([both, one, two], every("abc")), (((0,),), (1, 2)))

    def test_one_code(self):
        for shape in (every("a"), finite_shape("a", []), finite_shape("a", ["a"]), ring_shape(3)):
            self.assertEqual(self.check([flat("a", 3)], shape), (((0,),), ()))

    def test_all_are_as_good_without_laps(self):
        codes = [flat("ab", 1), flat("ab", 5), runs("ab", 2, {"a": 1, "b": 9})]
        for shape in (finite_shape("ab", []), finite_shape("ab", ["", "abab"]), Shape("ab", [[0, 0]], [])):
            self.assertEqual(self.check(codes, shape), (((0,), (1,), (2,)), (0, 1, 2)))

    def test_all_are_wanted(self):
        told = [table("abc", {value: 1 if value == one else 9 for value in "abc"}) for one in "abc"]
        self.assertEqual(self.check(told, every("abc")), (((0, 1, 2),), ()))
        self.assertEqual(self.check([*told, flat("abc", 7)], every("abc")), (((0, 1, 2),), (3,)))
        self.assertEqual(self.check([*told, flat("abc", 6)], every("abc")), (((0, 1, 2, 3),), ()))
        self.assertEqual(self.check([*told, flat("abc", 6), flat("abc", 1)], every("abc")), (((4,),), (0, 1, 2, 3)))

    def test_great_bits_decide_by_one(self):
        one, two = prices(a=0, b=HUGE), prices(a=HUGE, b=0)
        self.assertEqual(self.check([one, two, flat("ab", HUGE // 2)], every("ab")), (((0, 1),), (2,)))
        self.assertEqual(self.check([one, two, flat("ab", HUGE // 2 - 1)], every("ab")), (((0, 1, 2),), ()))

    def test_arguments_stay(self):
        codes = [prices(a=1, b=4), prices(a=4, b=1)]
        before = list(codes)
        needless(codes, every("ab"))
        least_lots(codes, every("ab"))
        self.assertEqual(codes, before)

    def test_sixty_four_chains(self):
        codes = [flat("abc", 1), prices(a=0, b=1, c=2), prices(a=2, b=1, c=0), flat("abc", 1), prices(a=1, b=2, c=0)]
        self.assertEqual(least_lots(codes, layers(6)), ((1,),))
        self.assertEqual(needless(codes, layers(6)), (0, 2, 3, 4))


class Raises(unittest.TestCase):

    def check_too_many(self, what, codes, shape):
        for call in (needless, least_lots):
            with self.assertRaises(TooMany) as told:
                call(codes, shape)
            self.assertEqual(told.exception.what, what)

    def test_also_for_one_code(self):
        self.check_too_many("states", [ring_code(61)], every("a"))
        self.check_too_many("states", [ring_code(20)], ring_shape(7))
        self.check_too_many("chains", [flat("abc", 1)], layers(7))
        self.check_too_many("chains", [flat("abc", 1)], layers(6, True))
        self.assertEqual((needless([ring_code(12)], ring_shape(5)), least_lots([ring_code(12)], ring_shape(5))),
                         ((), ((0,),)))
        for call in (needless, least_lots):
            with self.assertRaises(Unlike):
                call([flat("a", 1)], every("b"))

    def test_several_codes(self):
        self.check_too_many("states", [ring_code(7), ring_code(9)], every("a"))
        self.check_too_many("states", [ring_code(8, "abc"), flat("abc", 1)], layers(7))
        self.check_too_many("chains", [flat("abc", 1)] * 5, layers(7))
        self.check_too_many("states", [ring_code(3), ring_code(4), ring_code(5), ring_code(7)], every("a"))
        for call in (needless, least_lots):
            with self.assertRaises(Unlike):
                call([ring_code(40), ring_code(39), flat("b", 1)], every("a"))
            with self.assertRaises(Unlike):
                call([flat("abc", 1), flat("abc", 1)], every("ab"))
            with self.assertRaises(Unlike):
                call([flat("abc", 1), flat("abd", 1)], layers(7))

    def test_as_good_for_all_parts(self):
        # at just sixty states for all together
        codes = [ring_code(3, "a", 2), ring_code(4, "a", 1), ring_code(5, "a", 3)]
        self.assertEqual((needless(codes, every("a")), least_lots(codes, every("a"))), ((0, 2), ((1,),)))
        self.assertIs(as_good(codes[1:], codes[0], every("a")), True)


if __name__ == "__main__":
    unittest.main()

"""[40], [41]: the best of several codes, what it loses, and papers about it."""

import inspect
import random
import unittest

from bestcodes.codes import Code
from bestcodes.errors import BadValue, TooMany, Unlike
from bestcodes.joint import Joint
from bestcodes.making import distinct, packed, pairs, runs, summed, table, times
from bestcodes.several import Grows, Never, as_good, best, bound, is_best, loss
from bestcodes.shapes import Shape, changes, every, rising, without
from helpers import (any_code, any_shape, balanced_codes, columns, finite_shape, flat, layers, paid, prices, ring_code,
                     ring_shape, sparse_shape)
from looks import Look

HUGE = 10 ** 30
REACH = {1: 12, 2: 6, 3: 4}


def lost(codes, base, column):
    return min(paid(code, column) for code in codes) - paid(base, column)


def fields(paper):
    return type(paper), vars(paper)


def far_losses(codes, base, paper, rounds=(0, 1, 2, 7, 10 ** 20)):
    """What the best loses on the columns of a Grows for so many rounds."""
    told = []
    for many in rounds:
        blocks = []
        for word, ring, number in paper.pieces:
            blocks += [(word, 1), (ring, number * many)]
        blocks = [(word, number) for word, number in [*blocks, (paper.last, 1)] if word]
        told.append(min(code.far(blocks) for code in codes) - base.far(blocks))
    return told


class Papers(unittest.TestCase):

    def test_the_attributes(self):
        parts = (((1, 0), (0, 5, -HUGE)), ((2, 3), ()))
        self.assertEqual(vars(Never(parts)), {"parts": parts})
        self.assertEqual(vars(Never(parts=())), {"parts": ()})
        pieces = (("ab", "a", 1), ("", "b", HUGE))
        self.assertEqual(vars(Grows(pieces, "a")), {"pieces": pieces, "last": "a"})
        self.assertEqual(vars(Grows(last="", pieces=())), {"pieces": (), "last": ""})

    def test_the_names_of_the_interface(self):
        told = {Never: "parts", Grows: "pieces last", best: "codes base shape", is_best: "codes base shape paper",
                bound: "codes base shape paper", loss: "codes base column", as_good: "codes other shape"}
        for call, names in told.items():
            self.assertEqual(list(inspect.signature(call).parameters), names.split())


class Best(unittest.TestCase):

    def check(self, codes, base, shape):
        """Check the paper by a look of its own; the kind of the paper."""
        paper = best(codes, base, shape)
        look = Look([*codes, base], shape)
        short = [column for column in columns(shape.letters, REACH[len(shape.letters)]) if shape.has(column)]
        if isinstance(paper, Never):
            self.assertTrue(look.right_never(paper), fields(paper))
            most = bound(codes, base, shape, paper)
            self.assertEqual(most, look.shown(paper))
            self.assertEqual(most is None, not look.states)
            for column in short:
                self.assertLessEqual(lost(codes, base, column), most)
            self.check_tuples(paper.parts)
        else:
            self.assertIsInstance(paper, Grows)
            self.assertTrue(look.right_grows(paper), fields(paper))
            told = far_losses(codes, base, paper)
            self.assertEqual(told, sorted(set(told)))
            for many in range(3):
                if all(number < 50 for _, _, number in paper.pieces):
                    column = "".join(word + ring * (number * many) for word, ring, number in paper.pieces) + paper.last
                    self.assertTrue(shape.has(column))
            self.check_tuples(paper.pieces)
        self.assertIs(is_best(codes, base, shape, paper), True)
        self.assertIs(as_good(codes, base, shape), isinstance(paper, Never))
        self.assertEqual(fields(best(base=base, shape=shape, codes=tuple(codes))), fields(paper))
        return type(paper)

    def check_tuples(self, told):
        self.assertIs(type(told), tuple)
        for one in told:
            self.assertIs(type(one), tuple)
            for some in one:
                self.assertIn(type(some), (tuple, int, str))

    def test_the_example(self):
        base, one, two = flat("ab", 3), prices(a=2, b=5), prices(a=5, b=2)
        self.assertEqual((isinstance(best([one, two], base, changes("ab", 0)), Never),
                          as_good([one, two], base, rising("ab")), loss([one, two], base, "aabb")), (True, False, 2))
        self.check([one, two], base, changes("ab", 0))
        self.check([one, two], base, rising("ab"))

    def test_codes_and_shapes_made_anyhow(self):
        draw = random.Random(51)
        met = []
        for _ in range(300):
            values = draw.choice(("a", "ab", "ab", "abc"))
            codes = [any_code(draw, values, draw.randint(1, 2), draw.choice((2, 9)))
                     for _ in range(draw.randint(2, 4))]
            met.append(self.check(codes[:-1], codes[-1], any_shape(draw, values, draw.randint(1, 5))))
        self.assertGreater(met.count(Never), 50)
        self.assertGreater(met.count(Grows), 50)

    def test_one_to_five_codes_just_balanced(self):
        # weights are few, and a base that pays one bit less or more decides
        draw = random.Random(52)
        for many in range(1, 6):
            met = []
            for _ in range(60):
                values = draw.choice(("a", "ab", "ab", "abc"))
                *codes, base = balanced_codes(draw, values, draw.randint(1, 4), many, draw.choice((0, 1)))
                met.append(self.check(codes, base, any_shape(draw, values, draw.randint(1, 3))))
                balanced = balanced_codes(draw, values, draw.randint(1, 4), many)
                self.assertIs(self.check(balanced[:-1], balanced[-1], every(values)), Never)
            self.assertGreater(met.count(Grows), 0, many)

    def test_many_laps_and_chains(self):
        draw = random.Random(53)
        met, most = [], 0
        for _ in range(150):
            codes = [flat("abc", 0)] * draw.randint(2, 6)
            codes = [table("abc", {value: draw.randint(0, 4) for value in "abc"}) for _ in codes]
            shape = sparse_shape(draw, "abc", draw.randint(3, 12))
            most = max(most, len(Joint(codes, shape).chains))
            met.append(self.check(codes[:-1], codes[-1], shape))
        self.assertGreater(most, 3)
        self.assertGreater(met.count(Never), 30)
        self.assertGreater(met.count(Grows), 30)

    def test_each_chain_may_want_other_weights(self):
        one, two, three = prices(a=1, b=9, c=9), prices(a=9, b=1, c=9), prices(a=9, b=9, c=1)
        paper = best([one, two, three], flat("abc", 1), changes("abc", 0))
        self.assertEqual([[weight > 0 for weight in weights] for weights, _ in paper.parts],
                         [[True, False, False], [False, True, False], [False, False, True]])
        self.assertIs(self.check([one, two, three], flat("abc", 1), changes("abc", 0)), Never)
        # in one chain all three rings can be mixed: 11 for 3 values and each code
        self.assertIs(self.check([one, two, three], flat("abc", 6), rising("abc")), Grows)
        self.assertIs(self.check([one, two, three], flat("abc", 7), rising("abc")), Never)

    def test_mixes_of_up_to_five_rings(self):
        # each code is dear in a lap of its own alone, so that each lap is wanted
        for many in range(1, 6):
            rows = [[lap, min(lap + 1, many)] for lap in range(many)] + [[many, many]]
            shape = Shape("ab", rows, range(many))
            for dear, kind in ((many, Grows), (many - 1, Never), (many + 1, Grows), (10 ** 9, Grows)):
                codes = []
                for code in range(many):
                    told = [[(lap, dear + 1 if lap == code else 0), (min(lap + 1, many), 0)] for lap in range(many + 1)]
                    codes.append(Code("ab", told, [0] * (many + 1)))
                self.assertIs(self.check(codes, flat("ab", 1), shape), kind)
                if kind is Grows:
                    self.assertEqual(len(best(codes, flat("ab", 1), shape).pieces), many)

    def test_made_codes(self):
        costs, steps = {"a": 3, "b": 5}, {"aa": 1, "ab": 7, "ba": 2, "bb": 4}
        codes = [table("ab", costs), runs("ab", 2, costs), pairs("ab", costs, steps), packed("ab", 2, 1, costs),
                 distinct("ab", 2, 1, 3, [2, 4])]
        codes.append(summed(codes[1], codes[0]))
        draw = random.Random(55)
        met = []
        for shape in (every("ab"), rising("ab"), changes("ab", 1), ring_shape(2, "ab", (1,)),
                      finite_shape("ab", ["", "abba"]), without(rising("ab"), changes("ab", 0))):
            for _ in range(6):
                chosen = draw.sample(codes, draw.randint(2, 3))
                met.append(self.check(chosen[:-1], chosen[-1], shape))
        self.assertGreater(met.count(Never), 5)
        self.assertGreater(met.count(Grows), 5)

    def test_a_shape_without_columns(self):
        codes, base = [ring_code(40), ring_code(39)], ring_code(37)
        for shape in (Shape("a", [[0]], []), Shape("a", [[0], [1]], [1]), finite_shape("a", [])):
            paper = best(codes, base, shape)
            self.assertEqual(fields(paper), (Never, {"parts": ()}))
            self.assertIs(is_best(codes, base, shape, paper), True)
            self.assertIsNone(bound(codes, base, shape, paper))
            self.assertIs(as_good(codes, base, shape), True)
            for wrong in (Never((((1, 1), ()),)), Grows((), ""), Grows((("", "a", 1),), "")):
                self.assertIs(is_best(codes, base, shape, wrong), False)

    def test_a_shape_with_finitely_many_columns(self):
        draw = random.Random(56)
        for words in ([""], ["a"], ["ab", "b", "bbb"], ["", "abab", "aa"]):
            shape = finite_shape("ab", words)
            for _ in range(10):
                codes = [any_code(draw, "ab", 2, 20) for _ in range(draw.randint(2, 4))]
                self.assertIs(self.check(codes[:-1], codes[-1], shape), Never)
        codes, base = [flat("ab", 7, 2)], flat("ab", 3)
        paper = best(codes, base, finite_shape("ab", ["", "ab", "bb"]))
        self.assertEqual([len(heights) for _, heights in paper.parts], [5])
        self.assertEqual(bound(codes, base, finite_shape("ab", ["", "ab", "bb"]), paper), 10)

    def test_state_0_in_a_lap_and_in_none(self):
        one, other = prices(a=1, b=2), prices(a=2, b=1)
        for rows, kinds in (([[0, 1], [1, 2], [2, 2]], (Never, Grows)), ([[1, 2], [1, 2], [2, 2]], (Never, Grows)),
                            ([[1, 2], [2, 1], [2, 2]], (Grows, Never)), ([[0, 1], [2, 1], [2, 2]], (Grows, Grows))):
            shape = Shape("ab", rows, [0, 1])
            self.assertEqual((self.check([one], other, shape), self.check([other], one, shape)), kinds)
            self.assertEqual(Look([one], shape).laps[0] == (0,), rows[0][0] == 0)
        # two chains that share the lap of state 0: its height stands in both parts
        shape = Shape("abc", [[0, 1, 2], [1, 3, 3], [3, 2, 3], [3, 3, 3]], [0, 1, 2])
        codes, base = [prices(a=1, b=5, c=5), prices(a=2, b=1, c=9)], flat("abc", 5)
        self.assertIs(self.check(codes, base, shape), Never)
        paper = best(codes, base, shape)
        self.assertEqual([len(heights) for _, heights in paper.parts], [2, 2])

    def test_the_base_among_the_codes(self):
        draw = random.Random(57)
        for _ in range(30):
            codes = [any_code(draw, "ab", draw.randint(1, 2)) for _ in range(draw.randint(1, 3))]
            shape = any_shape(draw, "ab", draw.randint(1, 4))
            base = draw.choice(codes)
            self.assertIs(self.check(codes, base, shape), Never)
            self.assertIs(self.check([*codes, codes[0]], Code(base.letters, base.rows, base.ends), shape), Never)

    def test_two_codes_alike(self):
        one, two, base = prices(a=1, b=4), prices(a=4, b=1), flat("ab", 2)
        self.assertIs(self.check([one, one], base, every("ab")), Grows)
        self.assertIs(self.check([one, two, one, two], base, every("ab")), Grows)
        self.assertIs(self.check([one, one, two, two], flat("ab", 3), every("ab")), Never)

    def test_great_bits(self):
        draw = random.Random(58)
        one, two = prices(a=0, b=HUGE), prices(a=HUGE, b=1)
        self.assertIs(self.check([one, two], flat("ab", HUGE // 2), every("ab")), Grows)
        self.assertIs(self.check([one, two], flat("ab", HUGE // 2 + 1), every("ab")), Never)
        self.assertIs(self.check([one, two], prices(a=1, b=0), every("ab")), Grows)
        for _ in range(10):
            codes = [any_code(draw, "ab", 2, HUGE) for _ in range(4)]
            self.check(codes[:-1], codes[-1], every("ab"))
            self.check(codes[:-1], times(codes[-1], 2, 0), rising("ab"))

    def test_a_hair_beyond_the_balance(self):
        # 2 * one + 3 * two comes to 5 * base; then the base pays a bit less, among great ones
        one, two, base = prices(a=0, b=5 * HUGE), prices(a=5 * HUGE, b=0), prices(a=3 * HUGE, b=2 * HUGE)
        self.assertIs(self.check([one, two], base, every("ab")), Never)
        self.assertEqual([weights for weights, _ in best([one, two], base, every("ab")).parts], [(2, 3)])
        self.assertIs(self.check([one, two], prices(a=3 * HUGE - 1, b=2 * HUGE), every("ab")), Grows)
        self.assertIs(self.check([one, two], prices(a=3 * HUGE, b=2 * HUGE - 1), every("ab")), Grows)
        self.assertIs(self.check([one, two], prices(a=3 * HUGE + 1, b=2 * HUGE), every("ab")), Never)

    def test_sixty_states(self):
        codes = [ring_code(3, "ab", 5), ring_code(4, "ab", 7)]
        self.assertIs(self.check(codes, flat("ab", 5), ring_shape(5, "ab")), Never)
        self.assertIs(self.check(codes, flat("ab", 4), ring_shape(5, "ab")), Grows)
        draw = random.Random(59)
        rows = [[(state + 1) % 60, (state + 7) % 60] for state in range(60)]
        codes = [Code("ab", [[(goal, draw.randint(0, HUGE)) for goal in row] for row in rows], [0] * 60)
                 for _ in range(5)]
        self.assertEqual(len(Joint(codes, every("ab")).states), 60)
        base = Code("ab", [[(goal, sum(code.rows[state][at][1] for code in codes) // 5 + 1)
                            for at, goal in enumerate(row)] for state, row in enumerate(rows)], [0] * 60)
        self.assertIs(self.check(codes, base, every("ab")), Never)
        self.assertIs(self.check(codes, flat("ab", HUGE // 3), every("ab")), Grows)

    def test_sixty_four_chains(self):
        draw = random.Random(60)
        for many in (1, 5):
            codes = [table("abc", {value: draw.randint(0, 9) for value in "abc"}) for _ in range(many)]
            paper = best(codes, flat("abc", 10), layers(6))
            self.assertEqual(len(paper.parts), 64)
            self.assertIs(self.check(codes, flat("abc", 10), layers(6)), Never)
        self.check([prices(a=1, b=0, c=9), prices(a=2, b=0, c=0)], flat("abc", 0), layers(6))

    def test_arguments_stay(self):
        codes, base, shape = [prices(a=2, b=5), prices(a=5, b=2)], flat("ab", 3), changes("ab", 1)
        before = [str(code) for code in codes], str(base), str(shape)
        paper = best(codes, base, shape)
        kept = fields(paper)
        is_best(codes, base, shape, paper)
        as_good(codes, base, shape)
        loss(codes, base, "ab")
        self.assertEqual(([str(code) for code in codes], str(base), str(shape)), before)
        self.assertEqual((fields(paper), fields(best(codes, base, shape))), (kept, kept))


class Loss(unittest.TestCase):

    def test_it_is_the_least_length_less_that_of_the_base(self):
        draw = random.Random(61)
        for _ in range(40):
            codes = [any_code(draw, "ab", 3) for _ in range(draw.randint(2, 6))]
            for column in columns("ab", 4):
                self.assertEqual(loss(codes[:-1], codes[-1], column), lost(codes[:-1], codes[-1], column))
        self.assertEqual(loss(column="ab", base=flat("ab", HUGE), codes=(flat("ab", 1, HUGE),)), 2 - HUGE)

    def test_wrong_letters(self):
        for codes, column, place in (([flat("ab", 1)], "abc", 2), ([flat("ab", 1)] * 3, "?", 0),
                                     ([flat("ab", 1)], "abababA", 6)):
            with self.assertRaises(BadValue) as told:
                loss(codes, flat("ab", 2), column)
            self.assertEqual(told.exception.place, place)

    def test_unlike_comes_first(self):
        for codes, base in ((["ab", "abc"], "ab"), (["a"], "ab"), (["ab", "ab"], "ac")):
            for column in ("", "xyz"):
                with self.assertRaises(Unlike):
                    loss([flat(values, 1) for values in codes], flat(base, 1), column)


class Bound(unittest.TestCase):

    def test_papers_of_any_weights_and_heights(self):
        # one chain, one lap: the loss is 1 at most, and papers show it more or less closely
        codes, base = [flat("a", 2, 4), flat("a", 3, 1)], flat("a", 3)
        shape = every("a")
        for weights, heights, most in (((1, 0), (0,), 4), ((0, 1), (0,), 1), ((1, 1), (0,), 2), ((1, 3), (0,), 1),
                                       ((0, 1), (-5,), 1), ((0, 7), (HUGE,), 1), ((3, 1), (9,), 3)):
            paper = Never(((weights, heights),))
            self.assertIs(is_best(codes, base, shape, paper), True)
            self.assertEqual(bound(codes, base, shape, paper), most)
            self.assertEqual(Look([*codes, base], shape).shown(paper), most)

    def test_it_is_rounded_down(self):
        # also below 0: (0 - 7) / 2 is -4
        codes = [flat("a", 0), flat("a", 0, 3)]
        self.assertEqual(bound(codes, flat("a", 0, 5), every("a"), Never((((1, 1), (0,)),))), -4)
        self.assertEqual(bound(codes, flat("a", 0, 1), every("a"), Never((((1, 1), (0,)),))), 0)
        self.assertEqual(bound(codes, flat("a", 0, 1), every("a"), Never((((1, 2), (0,)),))), 1)

    def test_only_good_states_count(self):
        codes, base = [prices(a=3, b=0)], prices(a=0, b=9)
        for good, most in (([0], 0), ([0, 1], 3), ([1], 3)):
            shape = Shape("ab", [[1, 2], [2, 0], [2, 2]], good)
            paper = best(codes, base, shape)
            self.assertEqual((paper.parts, bound(codes, base, shape, paper)), ((((1,), (0, 3)),), most))

    def test_all_chains_count(self):
        # 1 and 2 are the laps, and each chain has but one of them
        shape = Shape("abc", [[1, 2, 3], [1, 3, 3], [3, 2, 3], [3, 3, 3]], [0, 1, 2])
        codes, base = [prices(a=5, b=6, c=0)], prices(a=5, b=6, c=0)
        for parts, most in (((((1,), (0, 2)), ((3,), (0, 4))), 2), ((((1,), (0, 1)), ((3,), (0, 6))), 2),
                            ((((1,), (0, 1)), ((3,), (5, 5))), 1), ((((4,), (7, 7)), ((1,), (-9, -9))), 0)):
            self.assertIs(is_best(codes, base, shape, Never(parts)), True)
            self.assertEqual(bound(codes, base, shape, Never(parts)), most)

    def test_states_that_no_column_of_a_chain_meets(self):
        # the state behind the second lap is a state of the first chain, too: what best tells of it there
        # does not loosen the bound, though much is paid at its end
        def told(bits, end):
            return Code("ab", [[(1, 0), (2, 0)], [(1, 0), (1, 0)], [(2, 0), (3, bits)], [(3, 0), (3, 0)]],
                        [0, 0, 0, end])

        shape = Shape("ab", [[1, 2], [1, 4], [2, 3], [4, 4], [4, 4]], [1, 2, 3])
        for end, bits, most in ((7, 100, 0), (HUGE, 2 * HUGE, 0), (7, 0, 7), (9, 8, 1)):
            codes, base = [told(0, end)], told(bits, 0)
            paper = best(codes, base, shape)
            self.assertTrue(Look([*codes, base], shape).right_never(paper))
            self.assertEqual([len(heights) for _, heights in paper.parts], [3, 3])
            self.assertEqual(bound(codes, base, shape, paper), most)


class IsBest(unittest.TestCase):

    def changed_nevers(self, paper):
        """A Never with one thing changed."""
        parts = list(paper.parts)
        yield Never(parts[:-1])
        yield Never([*parts, parts[-1]])
        yield Never([*parts, ((1,), ())])
        yield Never(parts[::-1])
        yield Never(())
        for at, (weights, heights) in enumerate(parts):
            told = [(weights, heights[:-1]), (weights, (*heights, heights[-1])), (weights, (*heights, HUGE)),
                    (weights, ()), (weights[:-1], heights), ((*weights, 0), heights), ((*weights, 1), heights),
                    ((), heights), (tuple(0 for _ in weights), heights),
                    (tuple(0 for _ in weights), (0,) * len(heights)),
                    (tuple(-weight for weight in weights), heights), (weights, heights[::-1]), (weights[::-1], heights),
                    (tuple(2 * weight for weight in weights), tuple(2 * height for height in heights)),
                    (tuple(HUGE * weight for weight in weights), heights), (heights, weights)]
            for k in range(len(weights)):
                told += [((*weights[:k], weight, *weights[k + 1:]), heights)
                         for weight in (-1, 0, weights[k] + 1, weights[k] + HUGE, -weights[k])]
            for k in range(len(heights)):
                told += [(weights, (*heights[:k], heights[k] + more, *heights[k + 1:]))
                         for more in (-HUGE, -1, 1, HUGE)]
            for part in told:
                yield Never([*parts[:at], part, *parts[at + 1:]])

    def changed_grows(self, paper, values):
        """A Grows with one thing changed."""
        pieces, last = list(paper.pieces), paper.last
        yield Grows((), last)
        yield Grows(pieces[::-1], last)
        yield Grows([*pieces, pieces[-1]], last)
        yield Grows([*pieces, ("", pieces[-1][1], 1)], last)
        yield Grows([*pieces, ("", "", 1)], last)
        for more in (*values, "?", "a" + last, last + "b", last[:-1], "", "zz"):
            yield Grows(pieces, more)
        for at, (word, ring, number) in enumerate(pieces):
            yield Grows(pieces[:at] + pieces[at + 1:], last)
            told = [(word, ring, some) for some in (0, -1, -number, number + 1, number * HUGE, 1)]
            told += [(word, some, number) for some in ("", ring[:-1], ring + ring, ring[::-1], ring + "?", ring + word)]
            told += [(word, some, number) for some in values] + [(some, ring, number) for some in values]
            told += [(some, ring, number) for some in ("", "?", word + word, word[1:], word + ring, ring + word, "A")]
            for piece in told:
                yield Grows([*pieces[:at], piece, *pieces[at + 1:]], last)

    def check(self, codes, base, shape):
        """Judge papers with one thing changed as the own look does; (right ones, wrong ones)."""
        paper = best(codes, base, shape)
        look = Look([*codes, base], shape)
        met = [0, 0]
        if isinstance(paper, Never):
            if look.chains:
                for changed in self.changed_nevers(paper):
                    told = look.right_never(changed)
                    self.assertIs(is_best(codes, base, shape, changed), told, fields(changed))
                    met[told] += 1
        else:
            for changed in self.changed_grows(paper, shape.letters):
                told = look.right_grows(changed)
                self.assertIs(is_best(shape=shape, paper=changed, base=base, codes=codes), told, fields(changed))
                met[told] += 1
        return met

    def test_one_thing_changed(self):
        draw = random.Random(71)
        total = [0, 0]
        for _ in range(60):
            values = draw.choice(("a", "ab", "ab", "abc"))
            codes = [any_code(draw, values, draw.randint(1, 2), 3) for _ in range(draw.randint(2, 4))]
            met = self.check(codes[:-1], codes[-1], any_shape(draw, values, draw.randint(1, 4)))
            total = [ahead + more for ahead, more in zip(total, met)]
        for _ in range(60):
            codes = [table("abc", {value: draw.randint(0, 3) for value in "abc"}) for _ in range(draw.randint(2, 4))]
            met = self.check(codes[:-1], codes[-1], sparse_shape(draw, "abc", draw.randint(3, 7)))
            total = [ahead + more for ahead, more in zip(total, met)]
        for _ in range(40):
            *codes, base = balanced_codes(draw, "ab", draw.randint(1, 3), draw.randint(1, 4), draw.randint(0, 1))
            met = self.check(codes, base, any_shape(draw, "ab", draw.randint(1, 3)))
            total = [ahead + more for ahead, more in zip(total, met)]
        self.assertGreater(min(total), 1000, total)

    def test_nevers_that_are_surely_wrong(self):
        # weights (1, 1) alone are right, and the heights differ by exactly 4
        codes = [Code("ab", [[(1, 8), (0, 0)], [(1, 8), (0, 0)]], [0, 0]),
                 Code("ab", [[(1, 0), (0, 0)], [(1, 0), (0, 8)]], [0, 0])]
        base = Code("ab", [[(1, 2), (0, 0)], [(1, 4), (0, 6)]], [0, 0])
        shape = every("ab")
        for weights, heights, told in (((1, 1), (0, 4), True), ((1, 1), (5, 9), True), ((1, 1), (-4, 0), True),
                                       ((3, 3), (0, 12), True), ((1, 1), (0, 3), False), ((1, 1), (0, 5), False),
                                       ((2, 2), (0, 4), False), ((1, 2), (0, 4), False), ((2, 1), (0, 4), False),
                                       ((0, 0), (0, 0), False), ((-1, -1), (0, -4), False), ((1,), (0, 4), False),
                                       ((1, 1, 0), (0, 4), False), ((1, 1), (0,), False), ((1, 1), (0, 4, 4), False),
                                       ((), (), False), ((1, 1), (), False), ((), (0, 4), False),
                                       ((HUGE, HUGE), (0, 4 * HUGE), True), ((HUGE, HUGE + 1), (0, 4 * HUGE), False),
                                       ((HUGE, HUGE), (0, 4 * HUGE - 1), False), ((2, -1), (0, 99), False)):
            paper = Never(((weights, heights),))
            self.assertIs(is_best(codes, base, shape, paper), told, (weights, heights))
            self.assertIs(Look([*codes, base], shape).right_never(paper), told)

    def test_grows_that_are_surely_wrong(self):
        # a loses 2 by the first and gains 1 by the second; b the other way
        codes, base = [prices(a=0, b=3, c=1), prices(a=3, b=0, c=1)], flat("abc", 1)
        shape = Shape("abc", [[0, 1, 2], [3, 1, 2], [3, 3, 3], [3, 3, 3]], [2])
        for pieces, last, told in (((("", "a", 1), ("b", "b", 1)), "c", True),
                                   ((("", "a", 2), ("b", "b", 1)), "c", False),
                                   ((("", "a", 1), ("b", "b", 2)), "c", False),
                                   ((("", "a", 3), ("b", "b", 2)), "c", True),
                                   ((("aaa", "a", 5), ("ab", "b", 5)), "bc", True),
                                   ((("", "a", 1), ("b", "b", 1)), "", False),
                                   ((("", "a", 1), ("b", "b", 1)), "a", False),
                                   ((("", "a", 1), ("b", "b", 1)), "cc", False),
                                   ((("", "a", 1), ("", "b", 1)), "c", False),
                                   ((("", "b", 1), ("b", "b", 1)), "c", False),
                                   ((("", "a", 1),), "c", False), ((("b", "b", 1),), "c", False), ((), "c", False),
                                   ((("", "a", 0), ("b", "b", 1)), "c", False),
                                   ((("", "a", -1), ("b", "b", -1)), "c", False),
                                   ((("", "", 1), ("", "a", 1), ("b", "b", 1)), "c", False),
                                   ((("", "a", 1), ("", "aa", 1), ("b", "b", 1), ("b", "b", 2)), "c", True),
                                   ((("b", "b", 1), ("", "a", 1)), "c", False),
                                   ((("", "a", 10 ** 50), ("b", "b", 10 ** 50 + 1)), "c", True),
                                   ((("", "a", 10 ** 50), ("b", "b", 2 * 10 ** 50)), "c", False)):
            paper = Grows(pieces, last)
            self.assertIs(is_best(codes, base, shape, paper), told, pieces)
            self.assertIs(Look([*codes, base], shape).right_grows(paper), told)

    def test_a_ring_must_close_in_the_joint_machine(self):
        # in the shape it closes at once, in the code behind two values, and each two lose 1
        codes, base = [Code("a", [[(1, 2)], [(0, 1)]], [0, 0])], flat("a", 1)
        for ring, told in (("a", False), ("aa", True), ("aaa", False), ("aaaa", True)):
            for word in ("", "a", "aaaaa"):
                self.assertIs(is_best(codes, base, every("a"), Grows(((word, ring, 1),), "a")), told)

    def test_a_kind_that_is_not_right(self):
        codes, base = [prices(a=2, b=5), prices(a=5, b=2)], flat("ab", 3)
        self.assertIs(is_best(codes, base, changes("ab", 0), Grows((("", "a", 1),), "")), False)
        self.assertIs(is_best(codes, base, changes("ab", 0), Grows((("a", "a", 1),), "")), False)
        self.assertIs(is_best(codes, base, rising("ab"), Never((((1, 1), (0, 0)),))), False)
        self.assertIs(is_best(codes, base, rising("ab"), Never((((1, 1), (0, 9)),))), False)
        self.assertIs(is_best(codes, base, finite_shape("ab", ["ab"]), Grows((("", "a", 1),), "b")), False)

    def test_letters_that_are_no_values(self):
        codes, base, shape = [flat("bd", 2)], flat("bd", 1), every("bd")
        self.assertIs(is_best(codes, base, shape, Grows((("d", "bd", 1),), "b")), True)
        for word in ("c", "B", "\u00e4", " ", "bcd", "d\n", "z" * 50, "%"):
            self.assertIs(is_best(codes, base, shape, Grows(((word, "b", 1),), "")), False)
            self.assertIs(is_best(codes, base, shape, Grows((("", word, 1),), "")), False)
            self.assertIs(is_best(codes, base, shape, Grows((("", "b", 1),), word)), False)

    def test_papers_of_any_size(self):
        codes, base = [flat("a", HUGE)], flat("a", HUGE - 1)
        word = "a" * 9999
        self.assertIs(is_best(codes, base, every("a"), Grows(((word, word, 10 ** 4000),), word)), True)
        self.assertIs(is_best(codes, base, every("a"), Grows([("a", "a", 1)] * 3000, "")), True)
        self.assertIs(is_best([base], codes[0], every("a"), Never((((10 ** 4000,), (-10 ** 4000,)),))), True)
        self.assertIs(is_best([base], codes[0], every("a"), Never((((1,) * 3000, (0,) * 3000),))), False)
        self.assertIs(is_best([base], codes[0], every("a"), Never((((1,), (0,)),) * 3000)), False)


class Raises(unittest.TestCase):

    def calls(self, codes, base, shape):
        papers = (Never(()), Never((((1,), (0,)),)), Grows((), ""), Grows((("", "a", 1),), "?"))
        return (lambda: best(codes, base, shape), lambda: as_good(codes, base, shape),
                *[lambda paper=paper: is_best(codes, base, shape, paper) for paper in papers])

    def check_too_many(self, what, codes, base, shape):
        for call in self.calls(codes, base, shape):
            with self.assertRaises(TooMany) as told:
                call()
            self.assertEqual(told.exception.what, what)

    def test_unlike(self):
        for codes, base, shape in ((["ab"], "a", "ab"), (["a", "ab"], "ab", "ab"), (["ab", "ab"], "ab", "abc"),
                                   (["a"], "a", "b")):
            for call in self.calls([flat(values, 1) for values in codes], flat(base, 1), every(shape)):
                with self.assertRaises(Unlike):
                    call()

    def test_unlike_comes_first(self):
        for call in self.calls([ring_code(40), ring_code(39)], flat("b", 1), every("a")):
            with self.assertRaises(Unlike):
                call()
        for call in self.calls([flat("abc", 1)], flat("abd", 1), layers(7)):
            with self.assertRaises(Unlike):
                call()

    def test_too_many_states(self):
        self.check_too_many("states", [ring_code(61)], flat("a", 1), every("a"))
        self.check_too_many("states", [flat("a", 1)], ring_code(61), every("a"))
        self.check_too_many("states", [ring_code(7)], ring_code(9), every("a"))
        self.check_too_many("states", [ring_code(3), ring_code(4)], ring_code(5), ring_shape(7))
        self.assertIs(as_good([ring_code(3), ring_code(4)], ring_code(5), ring_shape(5)), True)

    def test_too_many_chains(self):
        for many in (1, 5):
            self.check_too_many("chains", [flat("abc", 1)] * many, flat("abc", 1), layers(6, True))
            self.check_too_many("chains", [flat("abc", 1)] * many, flat("abc", 9), layers(7))
        self.assertIs(as_good([flat("abc", 1)] * 5, flat("abc", 1), layers(6)), True)

    def test_states_come_ahead_of_chains(self):
        self.check_too_many("states", [ring_code(8, "abc")], flat("abc", 1), layers(7))
        self.check_too_many("states", [flat("abc", 1)], ring_code(8, "abc"), layers(7))


if __name__ == "__main__":
    unittest.main()

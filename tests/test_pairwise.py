"""[32], [33]: two codes side by side."""

import inspect
import random
import unittest

from bestcodes.codes import Code
from bestcodes.errors import TooMany, Unlike
from bestcodes.joint import Joint
from bestcodes.making import distinct, packed, pairs, runs, summed, table, times, translated
from bestcodes.pairwise import Most, Rises, apart, is_rises, longer
from bestcodes.shapes import Shape, both, changes, every, rising, without
from helpers import any_code, any_shape, columns, finite_shape, paid, ring_code, ring_shape, walked

HUGE = 10 ** 30
REACH = {1: 40, 2: 8, 3: 5}


def less(one, other, column):
    return paid(one, column) - paid(other, column)


def short_ones(shape, most=None):
    """The short columns of a shape, in order."""
    most = REACH[len(shape.letters)] if most is None else most
    return [column for column in columns(shape.letters, most) if shape.has(column)]


def rises(one, other, shape, paper, most=130):
    """Whether a paper is right for the first numbers of rings, column by column."""
    told = [paper.head + paper.ring * many + paper.tail for many in range(most + 1)]
    if not all(shape.has(column) for column in told):
        return False
    lengths = [less(one, other, column) for column in told]
    return all(ahead < behind for ahead, behind in zip(lengths, lengths[1:]))


def lifted(draw, code, most):
    """A code with the states of another one, whose lengths differ from its by bounded bits only."""
    heights = [draw.randint(0, most) for _ in code.rows]
    heights[0] = 0
    rows = [[(goal, bits + most + heights[goal] - heights[state]) for goal, bits in row]
            for state, row in enumerate(code.rows)]
    raised = [[(goal, bits + most) for goal, bits in row] for row in code.rows]
    return (Code(code.letters, rows, [draw.randint(0, most) for _ in code.ends]),
            Code(code.letters, raised, code.ends))


class Papers(unittest.TestCase):

    def test_the_attributes(self):
        told = Most(6, "ab")
        self.assertEqual((told.bits, told.column), (6, "ab"))
        told = Most(column="", bits=-HUGE)
        self.assertEqual((told.bits, told.column), (-HUGE, ""))
        told = Rises("a", "bc", "")
        self.assertEqual((told.head, told.ring, told.tail), ("a", "bc", ""))
        told = Rises(tail="a", ring="b", head="c")
        self.assertEqual((told.head, told.ring, told.tail), ("c", "b", "a"))

    def test_the_names_of_the_interface(self):
        told = {Most: "bits column", Rises: "head ring tail", longer: "one other shape",
                is_rises: "one other shape paper", apart: "one other shape"}
        for call, names in told.items():
            self.assertEqual(list(inspect.signature(call).parameters), names.split())


class Longer(unittest.TestCase):

    def check(self, one, other, shape):
        """Check what is told against all short columns; the kind of what is told."""
        told = longer(one, other, shape)
        self.assertEqual(self.fields(told), self.fields(longer(one=one, other=other, shape=shape)))
        short = short_ones(shape)
        if told is None:
            self.assertEqual(short, [])
        elif isinstance(told, Most):
            lengths = [less(one, other, column) for column in short]
            self.assertLessEqual(max(lengths, default=told.bits), told.bits)
            self.assertTrue(shape.has(told.column))
            self.assertEqual(less(one, other, told.column), told.bits)
            # it is the first one, also if it is too long to be among the short ones
            self.assertEqual(([column for column, many in zip(short, lengths) if many == told.bits]
                              + [told.column])[0], told.column)
        else:
            self.assertIsInstance(told, Rises)
            self.assertTrue(rises(one, other, shape, told), self.fields(told))
            self.assertIs(is_rises(one, other, shape, told), True)
        return type(told)

    def fields(self, told):
        return None if told is None else (type(told), vars(told))

    def test_the_example(self):
        flat, code = table("ab", {"a": 2, "b": 2}), runs("ab", 9, {"a": 5, "b": 5})
        told = longer(code, flat, changes("ab", 1))
        self.assertEqual((told.bits, told.column, apart(code, flat, every("ab")),
                          isinstance(longer(flat, code, every("ab")), Most)), (6, "ab", "a", False))

    def test_codes_and_shapes_made_anyhow(self):
        draw = random.Random(21)
        met = []
        for _ in range(400):
            values = draw.choice(("a", "ab", "ab", "abc"))
            one, other = any_code(draw, values, draw.randint(1, 3)), any_code(draw, values, draw.randint(1, 3))
            met.append(self.check(one, other, any_shape(draw, values, draw.randint(1, 4))))
        for kind in (type(None), Most, Rises):
            self.assertGreater(met.count(kind), 30, kind)

    def test_bounded_codes_made_anyhow(self):
        draw = random.Random(22)
        for _ in range(300):
            values = draw.choice(("a", "ab", "ab", "abc"))
            shape = any_shape(draw, values, draw.randint(1, 3))
            # at most 9 states together: of two values, all columns that may be the first are short ones
            one, other = lifted(draw, any_code(draw, values, draw.randint(1, 3)), draw.choice((1, 3, 20)))
            self.assertNotEqual(self.check(one, other, shape), Rises)
            self.assertNotEqual(self.check(other, one, shape), Rises)

    def test_rings_that_just_do_not_rise(self):
        # the rings of a shape may lose, or gain nothing, or just gain something
        draw = random.Random(23)
        met = []
        for _ in range(300):
            one, other = lifted(draw, any_code(draw, "ab", draw.randint(1, 3)), 5)
            state, value = draw.randrange(len(one)), draw.randrange(2)
            rows = [list(row) for row in one.rows]
            goal, bits = rows[state][value]
            rows[state][value] = (goal, max(0, bits + draw.choice((-1, 1))))
            met.append(self.check(Code("ab", rows, one.ends), other, any_shape(draw, "ab", draw.randint(1, 3))))
        self.assertGreater(met.count(Rises), 50)
        self.assertGreater(met.count(Most), 50)

    def test_made_codes(self):
        costs, steps = {"a": 3, "b": 5}, {"aa": 1, "ab": 7, "ba": 2, "bb": 4}
        codes = [table("ab", costs), runs("ab", 2, costs), pairs("ab", costs, steps), packed("ab", 2, 1, costs),
                 distinct("ab", 2, 1, 3, [2, 4]), times(table("ab", costs), 2, 7),
                 translated("ab", {"a": "bb", "b": ""}, runs("ab", 2, costs))]
        codes.append(summed(codes[1], codes[3]))
        shapes = [every("ab"), rising("ab"), changes("ab", 0), changes("ab", 1), finite_shape("ab", ["", "abba", "bb"]),
                  without(rising("ab"), changes("ab", 0)), both(ring_shape(2, "ab", (1,)), rising("ab"))]
        met = [self.check(one, other, shape) for one in codes for other in codes for shape in shapes]
        self.assertGreater(met.count(Most), 100)
        self.assertGreater(met.count(Rises), 100)

    def test_a_shape_without_columns(self):
        one, other = ring_code(40), ring_code(39)
        for shape in (Shape("a", [[0]], []), Shape("a", [[0], [1]], [1]), finite_shape("a", [])):
            self.assertIsNone(longer(one, other, shape))
            self.assertIsNone(apart(one, other, shape))
            self.assertIs(is_rises(one, other, shape, Rises("", "a", "")), False)

    def test_the_empty_column(self):
        one, other = Code("a", [[(0, 0)]], [3]), Code("a", [[(0, 1)]], [7])
        told = longer(one, other, every("a"))
        self.assertEqual((told.bits, told.column), (-4, ""))
        told = longer(other, one, finite_shape("a", [""]))
        self.assertEqual((told.bits, told.column), (4, ""))
        self.assertEqual(longer(one, other, finite_shape("a", ["aaa"])).bits, -7)
        self.assertEqual((apart(one, other, every("a")), apart(one, other, finite_shape("a", ["aaa", "aa"]))),
                         ("", "aa"))

    def test_the_first_column_of_like_ones(self):
        flat = table("abc", {"a": 1, "b": 1, "c": 1})
        code = table("abc", {"a": 1, "b": 2, "c": 2})
        words = {"ccc": 3, "bbb": 3, "abb": 2, "cba": 2, "bc": 2, "cc": 2}
        for chosen, first in ((["abb", "cba", "a"], "abb"), (["ccc", "bbb", "abb"], "bbb"),
                              (["abb", "cc", "bc"], "bc"), (["cba", "cc"], "cc")):
            told = longer(code, flat, finite_shape("abc", chosen))
            self.assertEqual((told.column, told.bits), (first, words[first]))

    def test_a_shorter_column_that_is_as_good(self):
        # rings that gain nothing: no ring is in the column
        one, other = Code("a", [[(1, 1)], [(0, 0)]], [0, 0]), Code("a", [[(1, 0)], [(0, 1)]], [0, 0])
        told = longer(one, other, every("a"))
        self.assertEqual((told.bits, told.column), (1, "a"))
        told = longer(one, other, finite_shape("a", ["", "aaaaa", "aa", "aaa"]))
        self.assertEqual((told.bits, told.column), (1, "aaa"))

    def test_the_most_far_away(self):
        # the lap of 60 states gains once, behind 59 values, and loses it at once
        rows = [[((state + 1) % 60, 1 if state == 58 else 0)] for state in range(60)]
        back = [[((state + 1) % 60, 1 if state == 59 else 0)] for state in range(60)]
        one, other = Code("a", rows, [0] * 60), Code("a", back, [0] * 60)
        told = longer(one, other, every("a"))
        self.assertEqual((told.bits, told.column), (1, "a" * 59))
        self.assertEqual((longer(other, one, every("a")).bits, apart(one, other, every("a"))), (0, "a" * 59))
        told = longer(times(ring_code(20), 3, 0), ring_code(3, "a", 2), ring_shape(20, "a", (19,)))
        self.assertTrue(rises(ring_code(20, "a", 3), ring_code(3, "a", 2), ring_shape(20, "a", (19,)), told))

    def test_great_bits(self):
        one, other = table("ab", {"a": 1, "b": 1}), Code("ab", [[(0, HUGE), (0, HUGE)]], [HUGE])
        told = longer(one, other, every("ab"))
        self.assertEqual((told.bits, told.column), (-HUGE, ""))
        self.assertIsInstance(longer(other, one, rising("ab")), Rises)
        # a ring that gains 1 and loses nothing, among bits that are much greater
        near = Code("ab", [[(1, HUGE), (0, 0)], [(0, 1), (1, 0)]], [0, 0])
        back = Code("ab", [[(1, 0), (0, 0)], [(0, HUGE), (1, 0)]], [0, 0])
        told = longer(near, back, every("ab"))
        self.assertTrue(rises(near, back, every("ab"), told))
        told = longer(back, near, every("ab"))
        self.assertEqual((told.bits, told.column), (0, ""))
        beyond = Code("a", [[(1, 10 ** 5000)], [(1, 0)]], [0, 7])
        self.assertEqual(longer(beyond, table("a", {"a": 0}), every("a")).bits, 10 ** 5000 + 7)

    def test_what_is_told_may_be_passed_on(self):
        one, other = runs("ab", 9, {"a": 5, "b": 5}), table("ab", {"a": 2, "b": 2})
        told = longer(one, other, changes("ab", 1))
        self.assertEqual(one.length(told.column) - other.length(told.column), told.bits)
        paper = longer(one, other, every("ab"))
        self.assertIs(is_rises(one, other, every("ab"), Rises(paper.head, paper.ring, paper.tail)), True)

    def test_it_does_not_ask_for_chains(self):
        shape = changes("abc", 5)
        flat = table("abc", {"a": 1, "b": 1, "c": 1})
        self.assertEqual(longer(flat, flat, shape).bits, 0)
        self.assertIsNone(apart(flat, flat, shape))
        self.assertIs(is_rises(flat, flat, shape, Rises("", "a", "")), False)
        with self.assertRaises(TooMany):
            len(Joint([flat, flat], shape).chains)


class IsRises(unittest.TestCase):

    def test_against_the_columns_themselves(self):
        draw = random.Random(31)
        met = []
        for _ in range(1000):
            values = draw.choice(("a", "ab", "ab", "abc"))
            one, other = any_code(draw, values, draw.randint(1, 3), 3), any_code(draw, values, draw.randint(1, 3), 3)
            shape = any_shape(draw, values, draw.randint(1, 3))
            words = ["".join(draw.choice(values) for _ in range(draw.choice((0, 1, 1, 2, 3, 6)))) for _ in range(3)]
            paper = Rises(*words)
            told = is_rises(one=one, other=other, shape=shape, paper=paper)
            self.assertIs(told, rises(one, other, shape, paper, 30), words)
            met.append(told)
        self.assertGreater(met.count(True), 100)
        self.assertGreater(met.count(False), 100)

    def check(self, told, one, other, shape, *words):
        paper = Rises(*words)
        self.assertIs(is_rises(one, other, shape, paper), told, words)
        self.assertIs(rises(one, other, shape, paper), told, words)

    def test_each_step_has_to_rise(self):
        # three values gain 1, 1 and lose 1
        one = Code("a", [[(1, 1)], [(2, 1)], [(0, 0)]], [0, 0, 0])
        other = Code("a", [[(1, 0)], [(2, 0)], [(0, 1)]], [0, 0, 0])
        for ring, told in (("", False), ("a", False), ("aa", False), ("aaa", True), ("aaaa", False), ("aaaaaa", True)):
            for head in ("", "a", "aaaaa"):
                self.check(told, one, other, every("a"), head, ring, "")

    def test_it_must_not_rise_only_at_first(self):
        # the first five rings gain, later ones do not
        rows = [[(min(state + 1, 5), 1 if state < 5 else 0)] for state in range(6)]
        one, other = Code("a", rows, [0] * 6), table("a", {"a": 0})
        self.check(False, one, other, every("a"), "", "a", "")
        back = Code("a", [[(min(state + 1, 5), 0 if state < 5 else 1)] for state in range(6)], [0] * 6)
        self.check(False, back, other, every("a"), "", "a", "")
        self.check(False, back, other, every("a"), "aaaa", "a", "")
        self.check(True, back, other, every("a"), "aaaaa", "a", "")

    def test_the_tail_and_the_end_count(self):
        # two states by turns: the bits of the ring are the same, the ends are not
        one = Code("ab", [[(1, 2), (0, 0)], [(0, 2), (0, 9)]], [0, 1])
        other = table("ab", {"a": 0, "b": 0})
        self.check(True, one, other, every("ab"), "", "a", "")
        self.check(False, one, other, every("ab"), "", "a", "b")
        self.check(True, one, other, every("ab"), "", "aa", "b")
        ends = Code("ab", [[(1, 2), (0, 0)], [(0, 2), (0, 9)]], [0, 2])
        self.check(False, ends, other, every("ab"), "", "a", "")
        self.check(True, ends, other, every("ab"), "a", "aa", "")

    def test_all_must_be_of_the_shape(self):
        one, other = table("ab", {"a": 1, "b": 1}), table("ab", {"a": 0, "b": 0})
        shape = rising("ab")
        for words, told in ((("", "a", "b"), True), (("a", "b", ""), True), (("b", "a", ""), False),
                            (("", "ab", ""), False), (("", "a", "ba"), False), (("ba", "b", "b"), False),
                            (("aab", "bb", "b"), True), (("", "b", "a"), False)):
            self.check(told, one, other, shape, *words)
        even = ring_shape(2, "ab")
        for words, told in ((("", "aa", ""), True), (("a", "ab", "b"), True), (("", "a", ""), False),
                            (("a", "aa", ""), False), (("a", "aa", "bbb"), True)):
            self.check(told, one, other, even, *words)
        # finitely many rings are of the shape
        self.check(False, one, other, finite_shape("ab", ["", "a", "aa", "aaa"]), "", "a", "")

    def test_letters_that_are_no_values(self):
        one, other = table("bd", {"b": 1, "d": 1}), table("bd", {"b": 0, "d": 0})
        for word in ("c", "B", "bcd", "\u00e4", " ", "z" * 50, "d\n", "%", "bb?"):
            for words in ((word, "b", ""), ("", word, ""), ("", "b", word), (word, word, word), (word, "", "")):
                self.check(False, one, other, every("bd"), *words)
        self.check(True, one, other, every("bd"), "d", "db", "bd")

    def test_an_empty_ring(self):
        one, other = table("a", {"a": 1}), table("a", {"a": 0})
        self.check(False, one, other, every("a"), "", "", "")
        self.check(False, one, other, every("a"), "aa", "", "a")

    def test_long_words(self):
        one, other = table("a", {"a": HUGE}), table("a", {"a": HUGE - 1})
        self.assertIs(is_rises(one, other, every("a"), Rises("a" * 5000, "a" * 5000, "a" * 5000)), True)
        self.assertIs(is_rises(other, one, every("a"), Rises("a" * 5000, "a" * 5000, "a" * 5000)), False)

    def test_a_ring_round_sixty_states(self):
        # one value more in 60 pays, so that the ring must go round as a whole
        rows = [[((state + 1) % 60, 1 if state == 59 else 0)] for state in range(60)]
        one, other = Code("a", rows, [0] * 60), table("a", {"a": 0})
        for many in (1, 7, 30, 59, 60, 61, 120, 121):
            self.check(many >= 60, one, other, every("a"), "a", "a" * many, "")
        self.assertEqual(len(longer(one, other, every("a")).ring) % 60, 0)

    def test_the_paper_stays(self):
        paper = Rises("a", "b", "")
        one, other = table("ab", {"a": 1, "b": 1}), table("ab", {"a": 0, "b": 0})
        self.assertEqual([is_rises(one, other, rising("ab"), paper) for _ in range(2)], [True, True])
        self.assertEqual(vars(paper), {"head": "a", "ring": "b", "tail": ""})


class Apart(unittest.TestCase):

    def check(self, one, other, shape):
        told = apart(one, other, shape)
        self.assertEqual(told, apart(one=other, other=one, shape=shape))
        short = short_ones(shape)
        uneven = [column for column in short if less(one, other, column) != 0]
        if told is None:
            self.assertEqual(uneven, [])
        else:
            self.assertTrue(shape.has(told))
            self.assertNotEqual(less(one, other, told), 0)
            self.assertEqual((uneven + [told])[0], told)
        return told

    def test_codes_and_shapes_made_anyhow(self):
        draw = random.Random(41)
        for _ in range(300):
            values = draw.choice(("a", "ab", "ab", "abc"))
            one, other = any_code(draw, values, draw.randint(1, 3), 1), any_code(draw, values, draw.randint(1, 3), 1)
            self.check(one, other, any_shape(draw, values, draw.randint(1, 4)))

    def test_codes_that_are_nearly_alike(self):
        draw = random.Random(42)
        met = []
        for _ in range(600):
            values = draw.choice(("a", "ab", "ab", "abc"))
            one = any_code(draw, values, draw.randint(2, 4), 1)
            rows, ends = [list(row) for row in one.rows], list(one.ends)
            for _ in range(draw.randint(0, 1)):
                state, value = draw.randrange(len(one)), draw.randrange(len(values))
                rows[state][value] = (draw.randrange(len(one)), rows[state][value][1])
                ends[draw.randrange(len(one))] = draw.randint(0, 1)
            met.append(self.check(one, Code(values, rows, ends), any_shape(draw, values, draw.randint(1, 3))))
        self.assertGreater(met.count(None), 50)
        self.assertGreater(len([column for column in met if column is not None and len(column) > 2]), 10)

    def test_like_lengths_by_unlike_states(self):
        # bits that are paid earlier or later, but the lengths are the same at each end
        one = Code("ab", [[(1, 3), (0, 1)], [(1, 3), (0, 1)]], [0, 0])
        other = Code("ab", [[(1, 0), (0, 1)], [(1, 3), (0, 4)]], [0, 3])
        self.assertIsNone(self.check(one, other, every("ab")))
        self.assertIsNone(self.check(one, times(one, 1, 0), rising("ab")))

    def test_only_columns_of_the_shape_count(self):
        one, other = table("ab", {"a": 1, "b": 2}), table("ab", {"a": 2, "b": 1})
        self.assertEqual(self.check(one, other, every("ab")), "a")
        even = Shape("ab", [[1, 2], [3, 0], [0, 3], [3, 3]], [0])
        self.assertIsNone(self.check(one, other, even))
        self.assertEqual(self.check(one, other, finite_shape("ab", ["ab", "ba", "bba"])), "bba")

    def test_a_second_way_to_the_same_state(self):
        # by b the same state is met with other bits; all first columns are even
        one = Code("ab", [[(1, 0), (1, 1)], [(2, 0), (2, 0)], [(2, 0), (2, 0)]], [0, 0, 0])
        other = Code("ab", [[(1, 0), (1, 0)], [(2, 0), (2, 0)], [(2, 0), (2, 0)]], [0, 0, 0])
        self.assertEqual(self.check(one, other, every("ab")), "b")
        self.assertEqual(self.check(one, other, finite_shape("ab", ["aa", "ab", "bb", "bab"])), "bb")
        # here the first one is uneven until its end, and the second one is not
        last = Code("ab", [[(1, 0), (1, 0)], [(2, 1), (2, 0)], [(2, 0), (2, 0)]], [0, 0, 0])
        self.assertEqual(self.check(one, last, every("ab")), "b")
        self.assertEqual(self.check(one, last, finite_shape("ab", ["ba", "bbb"])), "bbb")

    def test_far_away(self):
        eight, seven = runs("a", 8, {"a": 5}), runs("a", 7, {"a": 5})
        self.assertEqual(apart(eight, seven, every("a")), "a" * 8)
        self.assertEqual(apart(eight, times(eight, 1, 1), every("a")), "")
        self.assertIsNone(apart(eight, seven, finite_shape("a", ["a" * many for many in range(8)])))
        four, three = runs("ab", 4, {"a": 5, "b": 5}), runs("ab", 3, {"a": 5, "b": 5})
        self.assertEqual(self.check(four, three, every("ab")), "aaaa")
        self.assertEqual(self.check(four, three, finite_shape("ab", ["aba", "bbbaab", "abbbb", "baaaa"])), "abbbb")
        # the end alone is not alike, behind all sixty states
        rows = [[(state + 1) % 60] for state in range(60)]
        one = Code("a", [[(goal, 3)] for goal, in rows], [0] * 60)
        self.assertEqual(apart(one, Code("a", one.rows, [0] * 59 + [1]), every("a")), "a" * 59)

    def test_great_bits(self):
        one, other = Code("a", [[(0, HUGE)]], [HUGE]), Code("a", [[(0, HUGE)]], [HUGE - 1])
        self.assertEqual(apart(one, other, every("a")), "")
        self.assertIsNone(apart(one, Code("a", [[(1, HUGE)], [(0, HUGE)]], [HUGE, HUGE]), every("a")))


class Raises(unittest.TestCase):

    def calls(self, one, other, shape):
        return (lambda: longer(one, other, shape), lambda: apart(one, other, shape),
                lambda: is_rises(one, other, shape, Rises("a", "a", "a")),
                lambda: is_rises(one, other, shape, Rises("", "", "?")))

    def test_unlike(self):
        for one, other, shape in (("a", "ab", "a"), ("ab", "a", "a"), ("a", "a", "ab"), ("a", "a", "b"),
                                  ("abc", "abc", "abd")):
            for call in self.calls(ring_code(3, one), ring_code(2, other), every(shape)):
                with self.assertRaises(Unlike):
                    call()

    def test_too_many(self):
        for one, other, shape in ((61, 1, 1), (7, 9, 1), (3, 5, 7), (39, 40, 1)):
            for call in self.calls(ring_code(one), ring_code(other), ring_shape(shape)):
                with self.assertRaises(TooMany) as told:
                    call()
                self.assertEqual(told.exception.what, "states")

    def test_unlike_comes_first(self):
        for one, other, shape in (("a", "b", "a"), ("b", "a", "a"), ("a", "a", "b")):
            for call in self.calls(ring_code(40, one), ring_code(39, other), ring_shape(37, shape)):
                with self.assertRaises(Unlike):
                    call()
        for call in self.calls(ring_code(2, "b"), ring_code(2, "b"), Shape("a", [[0]], [])):
            with self.assertRaises(Unlike):
                call()

    def test_just_at_sixty(self):
        one, other, shape = ring_code(4), ring_code(15), every("a")
        self.assertEqual((longer(one, other, shape).bits, apart(one, other, shape)), (0, None))
        self.assertIs(is_rises(one, other, shape, Rises("", "a", "")), False)


class Helpers(unittest.TestCase):

    def test_lifted_codes_are_bounded(self):
        draw = random.Random(1)
        one, other = lifted(draw, any_code(draw, "ab", 3), 5)
        self.assertTrue(all(abs(less(one, other, column)) < 50 for column in columns("ab", 9)))
        self.assertEqual(walked(one, "abab"), walked(other, "abab"))


if __name__ == "__main__":
    unittest.main()

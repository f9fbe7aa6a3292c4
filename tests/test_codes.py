"""[1], [2], [10], [12]: the class Code, its lengths and its far columns."""

import random
import unittest

from bestcodes.codes import Code
from bestcodes.errors import BadCode, BadValue
from helpers import columns, paid, ring

HUGE = 10 ** 30


def anyhow(values, many, most, seed):
    """A code with states and bits of a fixed kind, made anyhow."""
    draw = random.Random(seed)
    rows = [[(draw.randrange(many), draw.randint(0, most)) for _ in values] for _ in range(many)]
    return Code(values, rows, [draw.randint(0, most) for _ in range(many)])


class Attributes(unittest.TestCase):

    def test_attributes(self):
        code = Code("ab", [[(0, 1), (1, 2)], [(1, 3), (0, 4)]], [5, 6])
        self.assertEqual(code.letters, "ab")
        self.assertEqual(code.rows, (((0, 1), (1, 2)), ((1, 3), (0, 4))))
        self.assertEqual(code.ends, (5, 6))
        self.assertEqual(len(code), 2)
        kinds = [type(code.rows), type(code.ends), type(code.rows[1]), type(code.rows[1][0])]
        self.assertEqual(kinds, [tuple] * 4)

    def test_by_name_and_with_tuples(self):
        told = Code("ab", [[(0, 1), (0, 2)]], [5])
        self.assertEqual(Code(values="ab", rows=[[(0, 1), (0, 2)]], ends=[5]), told)
        self.assertEqual(Code("ab", (((0, 1), (0, 2)),), (5,)), told)
        self.assertEqual(told.length(column="ba"), 8)
        self.assertEqual(told.far(blocks=(("ba", 2),)), 11)

    def test_what_is_passed_is_copied_and_stays(self):
        rows, ends = [[(0, 1), (1, 2)], [(1, 3), (0, 4)]], [5, 6]
        code = Code("ab", rows, ends)
        self.assertEqual((rows, ends), ([[(0, 1), (1, 2)], [(1, 3), (0, 4)]], [5, 6]))
        rows[0][0] = (1, 9)
        rows[1].append((0, 0))
        rows.append([])
        ends[0] = 9
        ends.append(1)
        self.assertEqual(code, Code("ab", [[(0, 1), (1, 2)], [(1, 3), (0, 4)]], [5, 6]))

    def test_one_and_three_values_one_and_forty_states(self):
        for values in ("a", "z", "az", "bqz"):
            for many in (1, 2, 40, 41):
                rows, ends = ring(many, values)
                code = Code(values, rows, ends)
                self.assertEqual((len(code), code.letters), (many, values))

    def test_bits_at_the_edges(self):
        code = Code("ab", [[(0, 0), (0, HUGE)]], [HUGE])
        self.assertEqual(code.length(""), HUGE)
        self.assertEqual(code.length("abba"), 3 * HUGE)
        self.assertEqual(Code("a", [[(0, 0)]], [0]).length("aaa"), 0)
        beyond = Code("a", [[(0, 10 ** 5000)]], [HUGE + 1])
        self.assertEqual(beyond.length("aa"), 2 * 10 ** 5000 + HUGE + 1)


class Equality(unittest.TestCase):

    def test_equal_attributes(self):
        code = Code("ab", [[(0, 1), (0, 2)]], [3])
        self.assertTrue(code == Code("ab", [[(0, 1), (0, 2)]], [3]))
        self.assertFalse(code != Code("ab", [[(0, 1), (0, 2)]], [3]))
        for other in (Code("ac", [[(0, 1), (0, 2)]], [3]), Code("ab", [[(0, 1), (0, 3)]], [3]),
                      Code("ab", [[(0, 1), (0, 2)]], [4])):
            self.assertFalse(code == other)
            self.assertTrue(code != other)

    def test_the_same_lengths_are_not_enough(self):
        one = Code("a", [[(0, 1)]], [0])
        self.assertNotEqual(one, Code("a", [[(1, 1)], [(0, 1)]], [0, 0]))

    def test_no_thing_of_another_kind(self):
        code = Code("a", [[(0, 1)]], [0])

        class Alike:
            letters, rows, ends = code.letters, code.rows, code.ends

        for thing in (None, 0, "a", "code a\n0+1 .0", code.rows, ("a", code.rows, code.ends),
                      [], {}, Alike()):
            self.assertFalse(code == thing)
            self.assertTrue(code != thing)
            self.assertFalse(thing == code)


class Wrong(unittest.TestCase):

    def wrong(self, state, values, rows, ends):
        with self.assertRaises(BadCode) as told:
            Code(values, rows, ends)
        self.assertEqual(told.exception.state, state)

    def test_a_goal_that_is_no_state(self):
        self.wrong(0, "a", [[(1, 0)]], [0])
        self.wrong(0, "a", [[(-1, 0)]], [0])
        self.wrong(1, "ab", [[(0, 0), (1, 0)], [(1, 0), (2, 0)]], [0, 0])
        self.wrong(0, "a", [[(HUGE, 0)]], [0])

    def test_another_number_of_pairs(self):
        self.wrong(0, "ab", [[(0, 0)]], [0])
        self.wrong(1, "a", [[(0, 0)], [(0, 0), (0, 0)]], [0, 0])
        self.wrong(1, "a", [[(0, 0)], []], [0, 0])

    def test_ends(self):
        self.wrong(1, "a", [[(0, 0)], [(0, 0)]], [0])
        self.wrong(0, "a", [[(0, 0)], [(0, 0)]], [])
        self.wrong(2, "a", [[(0, 0)], [(0, 0)]], [0, 0, 0])
        self.wrong(2, "a", [[(0, 0)], [(0, 0)]], [0, 0, 0, 0])

    def test_no_state(self):
        self.wrong(0, "a", [], [])
        self.wrong(0, "a", [], [1, 2])

    def test_the_first_wrong_state(self):
        self.wrong(1, "a", [[(0, 0)], [(3, 0)], []], [0, 0, 0, 0])
        self.wrong(1, "a", [[(0, 0)], [], [(3, 0)]], [0, 0])
        self.wrong(1, "a", [[(0, 0)], [(0, 0)], [(3, 0)]], [0])
        self.wrong(0, "a", [[(3, 0)], [(0, 0)]], [0])
        self.wrong(1, "a", [[(0, 0)], [(3, 0)]], [0, 0, 0])

    def test_just_at_forty_states(self):
        rows, ends = ring(40)
        rows[39] = [(40, 0)]
        self.wrong(39, "a", rows, ends)
        self.wrong(39, "a", ring(40)[0], ends[:39])
        self.wrong(40, "a", ring(40)[0], ends + [0])


class Length(unittest.TestCase):

    def test_the_sum_of_all_bits(self):
        code = Code("ab", [[(0, 1), (1, 2)], [(1, 30), (0, 40)]], [500, 6000])
        told = [code.length(column) for column in ("", "a", "b", "ab", "ba", "bb")]
        self.assertEqual(told, [500, 501, 6002, 6003, 6032, 542])

    def test_against_the_rows(self):
        for seed, values in enumerate(("a", "by", "acz")):
            code = anyhow(values, 5, 1000, seed)
            for column in columns(values, 5):
                self.assertEqual(code.length(column), paid(code, column))

    def test_strange_letters(self):
        code = Code("bd", [[(0, 1), (0, 1)]], [0])
        wrong = [("a", 0), ("bda", 2), ("bcda", 1), ("dbB", 2), ("b d", 1), ("bd\n", 2),
                 ("\u00e4b", 0), ("bbbbe", 4), ("xy", 0)]
        for column, place in wrong:
            with self.assertRaises(BadValue) as told:
                code.length(column)
            self.assertEqual(told.exception.place, place, column)


class Far(unittest.TestCase):

    def test_it_is_the_length_of_the_long_column(self):
        draw = random.Random(5)
        for seed in range(200):
            values = draw.choice(("a", "ab", "xyz"))
            code = anyhow(values, draw.choice((1, 2, 3, 7, 40)), 50, seed)
            told = []
            for _ in range(draw.randint(0, 5)):
                word = "".join(draw.choice(values) for _ in range(draw.randint(1, 9)))
                told.append((word, draw.choice((0, 1, 2, 3, 39, 40, 41, 42, 100, 163))))
            column = "".join(word * many for word, many in told)
            self.assertEqual(code.far(told), paid(code, column), told)
            self.assertEqual(code.far(told), code.length(column))

    def test_no_block_and_no_times(self):
        code = Code("ab", [[(1, 1), (1, 2)], [(1, 30), (0, 40)]], [500, 6000])
        self.assertEqual(code.far([]), 500)
        self.assertEqual(code.far([("a", 0), ("bbb", 0)]), 500)
        self.assertEqual(code.far([("a", 0), ("b", 1), ("a", 0)]), 6002)

    def test_far_away(self):
        # a ring of 40 states of which one pays, begun behind a way of none
        rows, ends = ring(40, "ab", 0)
        rows[39] = [(0, 7), (0, HUGE)]
        code = Code("ab", rows, list(range(40)))
        self.assertEqual(code.far([("a", HUGE)]), HUGE // 40 * 7 + HUGE % 40)
        self.assertEqual(code.far([("a", HUGE + 39)]), HUGE // 40 * 7 + 39)
        self.assertEqual(code.far([("b", HUGE)]), HUGE // 40 * HUGE)
        self.assertEqual(code.far([("b", HUGE - 1)]), (HUGE // 40 - 1) * HUGE + 39)
        self.assertEqual(code.far([("aabbaabba", HUGE)] * 20), 20 * self.nines(code))

    def nines(self, code):
        # 40 words of nine letters are nine rings, and HUGE is full of forties
        return HUGE // 40 * paid(code, "aabbaabba" * 40)

    def test_a_way_that_ends_in_a_ring(self):
        # states 0 1 2 are left for good, 3 and 4 are a ring
        rows = [[(1, 1)], [(2, 10)], [(3, 100)], [(4, 1000)], [(3, 10000)]]
        code = Code("a", rows, [0, 0, 0, 5, 7])
        self.assertEqual([code.far([("a", many)]) for many in range(7)],
                         [0, 1, 11, 116, 1118, 11116, 12118])
        self.assertEqual(code.far([("a", 3 + 2 * HUGE)]), 111 + 11000 * HUGE + 5)
        self.assertEqual(code.far([("aa", HUGE)]), 1111 + 11000 * (HUGE - 2) + 7)

    def test_beyond_the_limits(self):
        code = Code("a", [[(0, 3)]], [1])
        self.assertEqual(code.far([("a" * 12, 10 ** 40)] * 25), 25 * 12 * 3 * 10 ** 40 + 1)

    def test_strange_letters(self):
        code = Code("ab", [[(0, 1), (0, 1)]], [0])
        wrong = [([("abc", 5)], 2), ([("ab", HUGE), ("xa", 1)], 2), ([("c", 0), ("ad", 1)], 1),
                 ([("ab", 1), ("zzz", 0), ("bbe", HUGE)], 4), ([("A", 1), ("c", 1)], 0)]
        for told, place in wrong:
            with self.assertRaises(BadValue) as error:
                code.far(told)
            self.assertEqual(error.exception.place, place, told)
        self.assertEqual(code.far([("c", 0), ("ab", 2), ("??", 0)]), 4)

    def test_the_blocks_stay(self):
        code = Code("ab", [[(0, 1), (0, 1)]], [0])
        told = [("ab", 2), ("a", 0)]
        code.far(told)
        self.assertEqual(told, [("ab", 2), ("a", 0)])
        self.assertEqual(code.far(tuple(told)), code.far(told))


if __name__ == "__main__":
    unittest.main()

"""[11]: the made codes, each against its length and its memory by the words of the document."""

import inspect
import unittest

from bestcodes.codes import Code
from bestcodes.errors import BadValue, TooMany, Unlike
from bestcodes.making import distinct, packed, pairs, runs, summed, table, times, translated
from helpers import blocks, check_made, columns, ring

HUGE = 10 ** 30
BITS = {"a": 3, "b": 50, "c": 700}
SPANS = (("a", 8), ("ab", 7), ("abc", 6), ("xz", 7))


def bits_of(values):
    return dict(zip(values, (3, 50, 700)))


def pieces(column, most):
    """The pieces of runs, cut off one by one from the left."""
    told = []
    while column:
        many = 1
        while many < most and column[:many + 1] == column[0] * (many + 1):
            many += 1
        told.append(column[:many])
        column = column[many:]
    return told


class Table(unittest.TestCase):

    def test_lengths_and_memory(self):
        for values, most in SPANS:
            bits = bits_of(values)
            check_made(self, table(values, bits), values, most,
                       lambda column: sum(bits[value] for value in column), lambda column: None)

    def test_edges(self):
        self.assertEqual(table("a", {"a": 0}), Code("a", [[(0, 0)]], [0]))
        self.assertEqual(table("ab", {"b": 10 ** 9, "a": 1}), Code("ab", [[(0, 1), (0, 10 ** 9)]], [0]))
        self.assertEqual(table(values="ab", bits={"a": 1, "b": 2}).rows, (((0, 1), (0, 2)),))


class Runs(unittest.TestCase):

    def test_the_example(self):
        code = runs("ab", 2, {"a": 3, "b": 4})
        told = (len(code), code.rows[0], code.length("aaab"), code.far([("ab", 10 ** 20), ("a", 3)]))
        self.assertEqual(told, (5, ((1, 3), (2, 4)), 10, 700000000000000000006))

    def test_lengths_and_memory(self):
        for values, most in (("a", 12), ("ab", 9), ("xz", 5), ("abc", 6)):
            for longest in (1, 2, 3, 5):
                bits = bits_of(values)

                def memory(column):
                    last = pieces(column, longest)[-1:]
                    return [(piece[0], len(piece)) for piece in last]

                def length(column):
                    return sum(bits[piece[0]] for piece in pieces(column, longest))

                code = runs(values, longest, bits)
                check_made(self, code, values, most, length, lambda column: tuple(memory(column)))

    def test_most_one_and_nine(self):
        for values, many in (("a", 1), ("ab", 2), ("abc", 3)):
            self.assertEqual(len(runs(values, 1, bits_of(values))), 1 + many)
            self.assertEqual(len(runs(values, 9, bits_of(values))), 1 + 9 * many)
        code = runs("abc", 9, BITS)
        for many in range(40):
            self.assertEqual(code.length("c" * many), (many + 8) // 9 * 700)
        self.assertEqual(code.length("a" * 9 + "b" * 10 + "a"), 3 + 100 + 3)
        self.assertEqual(runs(values="a", most=1, bits={"a": 5}).length("aaa"), 15)

    def test_too_many(self):
        # beyond the limit of most, but 40 states are not too many
        self.assertEqual(len(runs("abc", 13, BITS)), 40)
        with self.assertRaises(TooMany) as told:
            runs("abc", 14, BITS)
        self.assertEqual(told.exception.what, "states")


class Pairs(unittest.TestCase):

    def test_lengths_and_memory(self):
        for values, most in SPANS:
            first = bits_of(values)
            words = [one + other for one in values for other in values]
            bits = {word: 1000 + 7 ** at for at, word in enumerate(words)}

            def length(column):
                steps = [bits[column[at:at + 2]] for at in range(len(column) - 1)]
                return sum(steps) + (first[column[0]] if column else 0)

            check_made(self, pairs(values, first, bits), values, most, length, lambda column: column[-1:])

    def test_edges(self):
        code = pairs(values="a", first={"a": 5}, bits={"aa": 0})
        self.assertEqual((code.rows, code.ends), ((((1, 5),), ((1, 0),)), (0, 0)))


class Blocks(unittest.TestCase):

    def test_the_example(self):
        code = packed("ab", 2, 1, {"a": 2, "b": 5})
        told = (code.rows, code.ends, code.length("aab"))
        self.assertEqual(told, ((((1, 0), (2, 0)), ((0, 5), (0, 11)), ((0, 11), (0, 11))), (0, 3, 6), 11))

    def check_packed(self, values, size, widths, most):
        def length(column):
            return sum(11 + len(block) * max(widths[value] for value in block)
                       for block in blocks(column, size))

        def memory(column):
            rest = column[len(column) - len(column) % size:]
            return (len(rest), max(widths[value] for value in rest)) if rest else None

        check_made(self, packed(values, size, 11, widths), values, most, length, memory)

    def test_packed(self):
        for size in (1, 2, 3, 5):
            self.check_packed("a", size, {"a": 4}, 12)
            self.check_packed("ab", size, {"a": 4, "b": 9}, 11)
            self.check_packed("xyz", size, {"x": 4, "y": 9, "z": 6}, 7)

    def test_packed_with_like_widths(self):
        # the memory is the width and not the value: like widths are one
        for size in (1, 2, 4, 5):
            self.check_packed("ab", size, {"a": 4, "b": 4}, 11)
            self.check_packed("abc", size, {"a": 4, "b": 0, "c": 4}, 7)
            self.check_packed("abc", size, {"a": 0, "b": 0, "c": 0}, 7)

    def test_packed_pays_the_whole_block_with_its_last_value(self):
        code = packed("ab", 3, 10, {"a": 1, "b": 0})
        self.assertEqual(code.ends[0], 0)
        self.assertEqual([code.run(0, "ba")[1], code.run(0, "bab")[1]], [0, 13])
        self.assertEqual([code.length("b"), code.length("ba"), code.length("bab")], [10, 12, 13])

    def check_distinct(self, values, size, places, most):
        def length(column):
            return sum(11 + 100 * len(set(block)) + len(block) * places[len(set(block)) - 1]
                       for block in blocks(column, size))

        def memory(column):
            rest = column[len(column) - len(column) % size:]
            return len(rest), frozenset(rest)

        check_made(self, distinct(values, size, 11, 100, places), values, most, length, memory)

    def test_distinct(self):
        for size in (1, 2, 3, 5):
            self.check_distinct("a", size, [4], 12)
            self.check_distinct("ab", size, [0, 1], 11)
            self.check_distinct("xyz", size, [7, 1, 2], 7)

    def test_distinct_of_greatest_size(self):
        self.assertEqual(len(distinct("abc", 5, 0, 0, [0, 0, 0])), 24)
        self.assertEqual(len(packed("abc", 5, 0, {"a": 0, "b": 1, "c": 2})), 13)
        self.assertEqual(len(distinct("abc", 1, 1, 2, (3, 4, 5))), 1)

    def test_by_name(self):
        self.assertEqual(packed(values="ab", size=2, head=1, widths={"a": 2, "b": 5}).length("aab"), 11)
        self.assertEqual(distinct(values="a", size=2, head=1, entry=20, places=[300]).length("a"), 321)

    def test_bits_at_the_edges(self):
        top = 10 ** 9
        self.assertEqual(packed("a", 5, top, {"a": top}).length("a" * 6), 2 * top + 6 * top)
        self.assertEqual(distinct("ab", 5, top, top, [0, top]).length("ababa"), 3 * top + 5 * top)

    def test_too_many(self):
        for call in (lambda: packed("abc", 15, 0, {"a": 1, "b": 2, "c": 3}),
                     lambda: distinct("abc", 8, 0, 0, [0, 0, 0])):
            with self.assertRaises(TooMany) as told:
                call()
            self.assertEqual(told.exception.what, "states")


class Composed(unittest.TestCase):

    def state(self, code, column):
        return code.run(0, column)[0]

    def test_summed(self):
        one, other = runs("ab", 2, {"a": 1, "b": 20}), packed("ab", 2, 7, {"a": 100, "b": 0})
        check_made(self, summed(one, other), "ab", 9,
                   lambda column: one.length(column) + other.length(column),
                   lambda column: (self.state(one, column), self.state(other, column)))
        self.assertEqual(summed(one=one, other=other), summed(one, other))

    def test_summed_unlike(self):
        for one, other in (("ab", "a"), ("a", "b"), ("ab", "abc"), ("ab", "ac")):
            with self.assertRaises(Unlike):
                summed(table(one, bits_of(one)), table(other, bits_of(other)))

    def test_summed_of_forty_states_and_more(self):
        told = summed(Code("a", *ring(5)), Code("a", *ring(8, bits=2)))
        self.assertEqual((len(told), told.length("a" * 50)), (40, 150))
        self.assertEqual(len(summed(Code("a", *ring(20)), Code("a", *ring(40)))), 40)
        for one, other in ((1, 41), (6, 7), (41, 41), (39, 40)):
            with self.assertRaises(TooMany) as error:
                summed(Code("a", *ring(one)), Code("a", *ring(other)))
            self.assertEqual(error.exception.what, "states")

    def test_unlike_comes_first(self):
        with self.assertRaises(Unlike):
            summed(Code("a", *ring(6)), Code("b", *ring(7, "b")))
        with self.assertRaises(Unlike):
            summed(Code("a", *ring(41)), Code("b", *ring(41, "b")))

    def test_times(self):
        code = packed("abc", 2, 3, {"a": 1, "b": 5, "c": 2})
        for factor, more in ((0, 0), (1, 0), (0, 7), (3, 10 ** 9), (10 ** 9, 1)):
            check_made(self, times(code, factor, more), "abc", 6,
                       lambda column: code.length(column) * factor + more,
                       lambda column: self.state(code, column))
        self.assertEqual(times(code=code, factor=1, more=0), code)

    def test_states_that_no_column_leads_to_are_left_out(self):
        # 3 and 1 are reached, in this order; 2 and 4 are not
        code = Code("ab", [[(3, 1), (0, 2)], [(1, 3), (0, 4)], [(2, 9), (4, 9)],
                           [(0, 5), (1, 6)], [(0, 9), (0, 9)]], [10, 20, 30, 40, 50])
        told = Code("ab", [[(1, 1), (0, 2)], [(0, 5), (2, 6)], [(2, 3), (0, 4)]], [10, 40, 20])
        self.assertEqual(times(code, 1, 0), told)
        self.assertEqual(summed(code, table("ab", {"a": 0, "b": 0})), told)
        self.assertEqual(translated("ab", {"a": "a", "b": "b"}, code), told)

    def test_like_states_are_not_put_together(self):
        self.assertEqual(len(times(Code("a", *ring(7)), 0, 0)), 7)

    def test_many_states_of_which_few_are_reached(self):
        rows, ends = ring(50)
        rows[39] = [(0, 1)]
        self.assertEqual(len(times(Code("a", rows, ends), 2, 0)), 40)
        rows[39], rows[40] = [(40, 1)], [(0, 1)]
        with self.assertRaises(TooMany) as error:
            times(Code("a", rows, ends), 2, 0)
        self.assertEqual(error.exception.what, "states")

    def test_translated(self):
        code = runs("xyz", 2, {"x": 1, "y": 20, "z": 300})
        for values, words, most in (("ab", {"a": "xxy", "b": ""}, 9), ("a", {"a": "z"}, 9),
                                    ("a", {"a": ""}, 5), ("abc", {"a": "zyxzy", "b": "y", "c": ""}, 7),
                                    ("xyz", {"x": "z", "y": "y", "z": "xx"}, 6)):
            def whole(column):
                return "".join(words[value] for value in column)

            check_made(self, translated(values, words, code), values, most,
                       lambda column: code.length(whole(column)),
                       lambda column: self.state(code, whole(column)))

    def test_translated_keeps_the_end(self):
        code = packed("x", 2, 5, {"x": 1})
        told = translated(values="a", words={"a": "xxx"}, code=code)
        self.assertEqual((told.rows, told.ends), ((((1, 7),), ((0, 14),)), (0, 6)))
        self.assertEqual(translated("a", {"a": ""}, code), Code("a", [[(0, 0)]], [0]))

    def test_translated_wrong(self):
        code = table("xy", {"x": 1, "y": 2})
        for words, place in (({"a": "x", "b": "xz", "c": ""}, 1), ({"a": "xxxxw", "b": "w", "c": "w"}, 0),
                             ({"c": "a", "a": "", "b": "yyy"}, 2), ({"a": "x y", "b": "", "c": "X"}, 0)):
            with self.assertRaises(BadValue) as told:
                translated("abc", words, code)
            self.assertEqual(told.exception.place, place)

    def test_the_bad_value_comes_first(self):
        code = Code("a", *ring(41))
        with self.assertRaises(BadValue) as told:
            translated("ab", {"a": "a", "b": "b"}, code)
        self.assertEqual(told.exception.place, 1)
        with self.assertRaises(TooMany):
            translated("ab", {"a": "a", "b": ""}, code)
        # by words of 41 letters no other state is met, by two letters 41 are
        self.assertEqual(len(translated("b", {"b": "a" * 41}, code)), 1)
        with self.assertRaises(TooMany):
            translated("b", {"b": "aa"}, code)

    def test_bits_beyond_those_that_are_passed(self):
        code = Code("a", [[(0, HUGE)]], [HUGE])
        self.assertEqual(times(code, 10 ** 9, 1), Code("a", [[(0, HUGE * 10 ** 9)]], [HUGE * 10 ** 9 + 1]))
        self.assertEqual(summed(code, code).length("aa"), 6 * HUGE)


class Arguments(unittest.TestCase):

    def test_the_names_of_the_interface(self):
        told = {table: "values bits", runs: "values most bits", pairs: "values first bits",
                packed: "values size head widths", distinct: "values size head entry places",
                summed: "one other", times: "code factor more", translated: "values words code",
                Code: "values rows ends", Code.read: "text", Code.length: "self column", Code.far: "self blocks"}
        for call, names in told.items():
            self.assertEqual(list(inspect.signature(call).parameters), names.split())

    def test_nothing_that_is_passed_is_changed_or_kept(self):
        bits, widths, places, words = {"a": 1, "b": 2}, {"a": 3, "b": 4}, [5, 6], {"a": "ba", "b": ""}
        steps = {"aa": 1, "ab": 2, "ba": 3, "bb": 4}
        code = table("ab", bits)

        def made():
            return [table("ab", bits), runs("ab", 3, bits), pairs("ab", bits, steps),
                    packed("ab", 2, 1, widths), distinct("ab", 2, 1, 1, places),
                    translated("ab", words, code), times(code, 2, 1), summed(code, code)]

        first = made()
        self.assertEqual(first, made())
        self.assertEqual((bits, widths, places, words), ({"a": 1, "b": 2}, {"a": 3, "b": 4}, [5, 6],
                                                         {"a": "ba", "b": ""}))
        self.assertEqual(steps, {"aa": 1, "ab": 2, "ba": 3, "bb": 4})
        self.assertEqual(code, Code("ab", [[(0, 1), (0, 2)]], [0]))
        before = [[one.length(column) for column in columns("ab", 4)] for one in first]
        for given in (bits, widths, words, steps):
            given.clear()
        places.clear()
        self.assertEqual([[one.length(column) for column in columns("ab", 4)] for one in first], before)

    def test_dicts_in_another_order(self):
        self.assertEqual(runs("ab", 3, {"b": 2, "a": 1}), runs("ab", 3, {"a": 1, "b": 2}))
        self.assertEqual(packed("ab", 3, 1, {"b": 2, "a": 1}), packed("ab", 3, 1, {"a": 1, "b": 2}))

    def test_all_are_codes_and_may_be_passed_on(self):
        code = summed(times(runs("ab", 2, {"a": 1, "b": 2}), 3, 1),
                      translated("ab", {"a": "xy", "b": "x"}, distinct("xy", 2, 1, 2, (3, 4))))
        self.assertIsInstance(code, Code)
        self.assertEqual(Code(code.letters, code.rows, code.ends), code)
        self.assertEqual(Code.read(str(code)), code)


if __name__ == "__main__":
    unittest.main()

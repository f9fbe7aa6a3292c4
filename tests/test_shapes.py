"""[1], [2], [20] to [22]: the class Shape and the made shapes."""

import inspect
import random
import unittest

from bestcodes.codes import Code
from bestcodes.errors import BadCode, TooMany, Unlike
from bestcodes.shapes import Shape, both, changes, every, rising, without
from helpers import any_shape, check_shape, columns, finite_shape, gone, ring_shape

SPANS = (("a", 9), ("ab", 8), ("abc", 6), ("xz", 7), ("bqz", 5))


def many_changes(column):
    return sum(one != other for one, other in zip(column, column[1:]))


def falls(column):
    return any(one > other for one, other in zip(column, column[1:]))


class Attributes(unittest.TestCase):

    def test_the_example(self):
        told = (str(rising("ab")), len(changes("ab", 1)), Shape.read("shape ab\n0 1 good\n1 0").has("bab"))
        self.assertEqual(told, ("shape ab\n0 1 good\n2 1 good\n2 2", 6, True))

    def test_attributes(self):
        shape = Shape("ab", [[0, 1], [2, 1], [2, 2]], [1, 0, 1])
        self.assertEqual((shape.letters, shape.rows, shape.good), ("ab", ((0, 1), (2, 1), (2, 2)), (0, 1)))
        self.assertEqual(len(shape), 3)
        self.assertEqual([type(part) for part in (shape.rows, shape.rows[0], shape.good)], [tuple] * 3)

    def test_by_name_and_with_tuples(self):
        told = Shape("ab", [[0, 1], [1, 0]], [1])
        self.assertEqual(Shape(values="ab", rows=((0, 1), (1, 0)), good=(1,)), told)
        self.assertIs(told.has(column="b"), True)

    def test_what_is_passed_is_copied_and_stays(self):
        rows, good = [[0, 1], [1, 0]], [1, 0]
        shape = Shape("ab", rows, good)
        self.assertEqual((rows, good), ([[0, 1], [1, 0]], [1, 0]))
        rows[0][0] = 1
        rows.append([0, 0])
        good.clear()
        self.assertEqual(shape, Shape("ab", [[0, 1], [1, 0]], [0, 1]))

    def test_one_and_three_values_one_and_forty_states(self):
        for values in ("a", "z", "az", "bqz"):
            for many in (1, 2, 40, 41):
                shape = ring_shape(many, values)
                self.assertEqual((len(shape), shape.letters), (many, values))

    def test_good_ones(self):
        self.assertEqual(Shape("a", [[0]], []).good, ())
        self.assertEqual(Shape("a", [[0]], [0, 0, 0]).good, (0,))
        self.assertEqual(ring_shape(12, "a", [11, 2, 10, 2, 0]).good, (0, 2, 10, 11))

    def test_the_names_of_the_interface(self):
        told = {Shape: "values rows good", Shape.has: "self column", Shape.read: "text", every: "values",
                rising: "values", changes: "values most", both: "one other", without: "one other"}
        for call, names in told.items():
            self.assertEqual(list(inspect.signature(call).parameters), names.split())


class Equality(unittest.TestCase):

    def test_equal_attributes(self):
        shape = Shape("ab", [[0, 1], [1, 0]], [1, 0])
        self.assertTrue(shape == Shape("ab", [[0, 1], [1, 0]], [0, 1, 1]))
        self.assertFalse(shape != Shape("ab", [[0, 1], [1, 0]], [0, 1, 1]))
        for other in (Shape("ac", [[0, 1], [1, 0]], [0, 1]), Shape("ab", [[0, 1], [1, 1]], [0, 1]),
                      Shape("ab", [[0, 1], [1, 0]], [1]), every("ab")):
            self.assertFalse(shape == other)
            self.assertTrue(shape != other)

    def test_no_thing_of_another_kind(self):
        shape = Shape("a", [[0]], [0])

        class Alike:
            letters, rows, good = shape.letters, shape.rows, shape.good

        for thing in (None, 0, "a", "shape a\n0 good", shape.rows, ("a", shape.rows, shape.good), [], {},
                      Alike(), Code("a", [[(0, 0)]], [0])):
            self.assertFalse(shape == thing)
            self.assertTrue(shape != thing)
            self.assertFalse(thing == shape)


class Wrong(unittest.TestCase):

    def wrong(self, state, values, rows, good):
        with self.assertRaises(BadCode) as told:
            Shape(values, rows, good)
        self.assertEqual(told.exception.state, state)

    def test_a_goal_that_is_no_state(self):
        self.wrong(0, "a", [[1]], [0])
        self.wrong(0, "a", [[-1]], [0])
        self.wrong(1, "ab", [[0, 1], [1, 2]], [])
        self.wrong(0, "a", [[10 ** 30]], [])
        self.wrong(39, "a", [[0]] * 39 + [[40]], [])

    def test_another_number_of_goals(self):
        self.wrong(0, "ab", [[0]], [0])
        self.wrong(1, "a", [[0], [0, 0]], [])
        self.wrong(1, "a", [[0], []], [])

    def test_no_state(self):
        self.wrong(0, "a", [], [])
        self.wrong(0, "abc", (), [3, 4])

    def test_a_good_one_that_is_no_state(self):
        self.wrong(1, "a", [[0]], [1])
        self.wrong(-1, "a", [[0]], [0, -1, 7])
        # the first one as passed, not the least
        self.wrong(9, "a", [[1], [0]], [1, 9, 2, 0])
        self.wrong(40, "a", [[0]] * 40, [39, 40, 41])

    def test_rows_are_looked_at_ahead_of_good_ones(self):
        self.wrong(1, "a", [[0], [2]], [7])
        self.wrong(1, "ab", [[0, 0], [0]], [5, 6])

    def test_the_first_wrong_state(self):
        self.wrong(1, "a", [[0], [3], []], [])
        self.wrong(1, "a", [[0], [], [3]], [])


class Has(unittest.TestCase):

    def test_all_short_columns(self):
        draw = random.Random(3)
        for _ in range(60):
            shape = any_shape(draw, draw.choice(("a", "ab", "acz")), draw.randint(1, 6))
            for column in columns(shape.letters, 5):
                self.assertIs(shape.has(column), gone(shape, column) in shape.good)

    def test_the_empty_column(self):
        self.assertIs(Shape("a", [[1], [1]], [0]).has(""), True)
        self.assertIs(Shape("a", [[1], [1]], [1]).has(""), False)

    def test_other_letters(self):
        for column in ("c", "abc", "cab", "A", "a b", "ab\n", "\u00e4", "a" * 50 + "z", "b?a"):
            self.assertIs(every("ab").has(column), False)
        self.assertIs(every("bd").has("c"), False)


class Made(unittest.TestCase):

    def test_every(self):
        for values, most in SPANS:
            check_shape(self, every(values), values, most, lambda column: True, lambda column: None)
        self.assertEqual(every(values="ab"), Shape("ab", [[0, 0]], [0]))

    def test_rising(self):
        for values, most in SPANS:
            check_shape(self, rising(values), values, most, lambda column: not falls(column),
                        lambda column: "falls" if falls(column) else (column or values)[-1 if column else 0])
        self.assertEqual(rising(values="z"), every("z"))
        self.assertEqual(len(rising("abc")), 4)

    def test_changes(self):
        for values, span in SPANS:
            for most in (0, 1, 2, 5):
                def memory(column):
                    many = many_changes(column)
                    return "more" if many > most else (column[-1:], many)

                check_shape(self, changes(values, most), values, max(span, most + 2) if values != "abc" else 8,
                            lambda column: many_changes(column) <= most, memory)

    def test_changes_with_most_0_and_5(self):
        self.assertEqual(changes("ab", 0), Shape("ab", [[1, 2], [1, 3], [3, 2], [3, 3]], [0, 1, 2]))
        self.assertEqual([len(changes("abc", most)) for most in (0, 5)], [5, 20])
        self.assertEqual([len(changes("a", most)) for most in (0, 5)], [2, 2])
        self.assertEqual(changes(values="ab", most=5).has("ababab"), True)
        self.assertEqual(changes(values="ab", most=5).has("abababa"), False)

    def test_changes_beyond_the_limit(self):
        self.assertEqual([len(changes("ab", 18)), len(changes("abc", 11))], [40, 38])
        for values, most in (("ab", 19), ("abc", 12), ("abc", 1000)):
            with self.assertRaises(TooMany) as told:
                changes(values, most)
            self.assertEqual(told.exception.what, "states")

    def test_both_and_without(self):
        draw = random.Random(8)
        pairs = [(rising("ab"), changes("ab", 1)), (every("abc"), rising("abc")), (rising("a"), ring_shape(3)),
                 (changes("xz", 0), ring_shape(2, "xz", (1,)))]
        for _ in range(60):
            values = draw.choice(("a", "ab", "abc"))
            pairs.append((any_shape(draw, values, draw.randint(1, 4)), any_shape(draw, values, draw.randint(1, 4))))
        for one, other in pairs:
            most = {1: 12, 2: 9, 3: 6}[len(one.letters)]

            def memory(column):
                return gone(one, column), gone(other, column)

            # of three values not all states are met by short columns
            if len({memory(column) for column in columns(one.letters, most)}) == len(both(one, other)):
                check_shape(self, both(one, other), one.letters, most,
                            lambda column: one.has(column) and other.has(column), memory)
                check_shape(self, without(one, other), one.letters, most,
                            lambda column: one.has(column) and not other.has(column), memory)
        self.assertEqual(both(one=one, other=other), both(one, other))
        self.assertEqual(without(one=one, other=other), without(one, other))

    def test_both_are_met(self):
        self.assertEqual(both(rising("ab"), every("ab")), rising("ab"))
        self.assertEqual(without(rising("ab"), rising("ab")).good, ())
        self.assertEqual(without(every("ab"), rising("ab")), Shape("ab", rising("ab").rows, [2]))
        self.assertEqual(without(every("ab"), finite_shape("ab", [])).good, (0, 1))

    def test_states_that_no_column_leads_to_are_left_out(self):
        # 3 and 1 are reached, in this order; 2 and 4 are not
        shape = Shape("ab", [[3, 0], [3, 0], [2, 4], [0, 1], [0, 0]], [1, 2, 4])
        told = Shape("ab", [[1, 0], [0, 2], [1, 0]], [2])
        self.assertEqual(both(shape, every("ab")), told)
        self.assertEqual(both(every("ab"), shape), told)
        self.assertEqual(without(shape, Shape("ab", [[0, 0]], [])), told)

    def test_like_states_are_not_put_together(self):
        self.assertEqual(len(both(ring_shape(7, "a", range(7)), every("a"))), 7)

    def test_forty_states_and_more(self):
        for call in (both, without):
            self.assertEqual(len(call(ring_shape(5), ring_shape(8))), 40)
            self.assertEqual(len(call(ring_shape(20), ring_shape(40))), 40)
            for one, other in ((41, 1), (6, 7), (41, 41), (1, 41), (39, 40)):
                with self.assertRaises(TooMany) as told:
                    call(ring_shape(one), ring_shape(other))
                self.assertEqual(told.exception.what, "states")

    def test_many_states_of_which_few_are_reached(self):
        rows = [[(state + 1) % 50] for state in range(50)]
        rows[39] = [0]
        self.assertEqual(len(both(Shape("a", rows, [49]), every("a"))), 40)
        rows[39], rows[40] = [40], [0]
        with self.assertRaises(TooMany):
            both(Shape("a", rows, [49]), every("a"))

    def test_unlike_comes_first(self):
        for call in (both, without):
            for one, other in (("ab", "a"), ("a", "b"), ("ab", "abc"), ("ab", "ac")):
                with self.assertRaises(Unlike):
                    call(every(one), every(other))
                with self.assertRaises(Unlike):
                    call(ring_shape(41, one), ring_shape(43, other))

    def test_equal_calls_tell_equal_shapes(self):
        for call in (lambda: every("abc"), lambda: rising("abc"), lambda: changes("abc", 3),
                     lambda: both(rising("ab"), changes("ab", 2)), lambda: without(rising("ab"), changes("ab", 2))):
            self.assertEqual(call(), call())

    def test_made_shapes_may_be_passed_on(self):
        shape = without(changes("ab", 2), both(rising("ab"), changes("ab", 1)))
        self.assertEqual(Shape(shape.letters, shape.rows, shape.good), shape)
        self.assertEqual(Shape.read(str(shape)), shape)


if __name__ == "__main__":
    unittest.main()

"""[30], [31]: joint machines, their laps and their chains."""

import inspect
import random
import unittest

from bestcodes.codes import Code
from bestcodes.errors import TooMany, Unlike
from bestcodes.joint import Joint
from bestcodes.making import packed, runs, table
from bestcodes.shapes import Shape, changes, every, rising, without
from helpers import any_code, any_shape, columns, finite_shape, layers, ring_code, ring_shape
from looks import Look, told_chains, told_laps, told_states


def plain(values):
    return table(values, {value: 1 for value in values})


class Attributes(unittest.TestCase):

    def test_the_example(self):
        joint = Joint([table("ab", {"a": 1, "b": 2})], rising("ab"))
        self.assertEqual((joint.states, joint.arrows, joint.good, joint.laps, joint.chains),
                         (((0, 0), (1, 0)), ((("a", 0), ("b", 1)), (("b", 1),)), (0, 1), ((0,), (1,)), ((0, 1),)))

    def test_codes_and_shape(self):
        codes, shape = [plain("ab"), runs("ab", 2, {"a": 1, "b": 2})], rising("ab")
        joint = Joint(codes, shape)
        self.assertEqual((joint.codes, joint.shape), (tuple(codes), shape))
        self.assertIsInstance(joint.codes, tuple)
        first = joint.states
        codes.pop()
        self.assertEqual((len(joint.codes), joint.states), (2, first))
        self.assertEqual(Joint(codes=(plain("ab"),), shape=shape).states, ((0, 0), (1, 0)))
        self.assertEqual(list(inspect.signature(Joint).parameters), ["codes", "shape"])

    def test_all_are_tuples(self):
        joint = Joint([plain("ab")], changes("ab", 1))
        for told in (joint.codes, joint.states, joint.states[0], joint.arrows, joint.arrows[0], joint.arrows[0][0],
                     joint.good, joint.laps, joint.laps[0], joint.chains, joint.chains[0]):
            self.assertIs(type(told), tuple)

    def test_equal_calls_tell_the_same(self):
        codes, shape = [runs("ab", 3, {"a": 1, "b": 2}), plain("ab")], changes("ab", 2)
        one, other = Joint(codes, shape), Joint([Code.read(str(code)) for code in codes], Shape.read(str(shape)))
        for name in ("states", "arrows", "good", "laps", "chains"):
            self.assertEqual(getattr(one, name), getattr(other, name))
            self.assertEqual(getattr(one, name), getattr(one, name))
        self.assertEqual((str(codes[0]), str(shape)), (str(runs("ab", 3, {"a": 1, "b": 2})), str(changes("ab", 2))))


class States(unittest.TestCase):

    def check(self, codes, shape):
        joint = Joint(codes, shape)
        self.assertEqual((joint.states, joint.arrows, joint.good), told_states(codes, shape))
        self.assertEqual(joint.laps, told_laps(joint.arrows))
        self.assertEqual(joint.chains, told_chains(joint.states, joint.arrows, joint.good, joint.laps))
        return joint

    def test_machines_made_anyhow(self):
        draw = random.Random(4)
        met = []
        for _ in range(400):
            values = draw.choice(("a", "ab", "ab", "abc"))
            codes = [any_code(draw, values, draw.randint(1, 3)) for _ in range(draw.randint(1, 2))]
            joint = self.check(codes, any_shape(draw, values, draw.randint(1, 6)))
            met.append((len(joint.states) > 0, len(joint.laps), len(joint.chains)))
        self.assertIn((False, 0, 0), met)
        self.assertIn((True, 0, 1), met)
        self.assertGreater(max(laps for _, laps, _ in met), 2)
        self.assertGreater(max(chains for _, _, chains in met), 1)

    def test_sparse_machines(self):
        # arrows lead on, seldom back: many laps and many chains
        draw = random.Random(14)
        most = 0
        for _ in range(300):
            many = draw.randint(3, 12)
            rows = [[draw.choice((state, min(many - 1, state + draw.randint(1, 3)))) for _ in "abc"]
                    for state in range(many)]
            shape = Shape("abc", rows, [state for state in range(many) if draw.random() < 0.5])
            most = max(most, len(self.check([plain("abc")], shape).chains))
        self.assertGreater(most, 4)

    def test_made_machines(self):
        for shape in (every("ab"), rising("ab"), changes("ab", 0), changes("ab", 5), ring_shape(3, "ab", (1,)),
                      finite_shape("ab", ["ab", "b"]), finite_shape("ab", []), without(every("ab"), rising("ab"))):
            self.check([plain("ab")], shape)
            self.check([runs("ab", 2, {"a": 1, "b": 2}), packed("ab", 2, 1, {"a": 1, "b": 2})], shape)
        self.check([plain("c")], ring_shape(5, "c"))
        self.check([plain("abc")] * 6, changes("abc", 4))

    def test_a_shape_without_columns(self):
        for shape in (Shape("a", [[0]], []), Shape("a", [[0], [1]], [1]), finite_shape("a", []),
                      Shape("a", [[1], [1], [0]], [2]), changes("a", -1)):
            joint = Joint([plain("a"), ring_code(40)], shape)
            self.assertEqual((joint.states, joint.arrows, joint.good, joint.laps, joint.chains), ((),) * 5)

    def test_a_shape_with_finitely_many_columns(self):
        joint = Joint([ring_code(40, "ab")], finite_shape("ab", ["ab", "b"]))
        self.assertEqual(joint.arrows, ((("a", 1), ("b", 2)), (("b", 3),), (), ()))
        self.assertEqual((joint.good, joint.laps, joint.chains), ((2, 3), (), ((),)))
        joint = Joint([plain("a")], finite_shape("a", [""]))
        self.assertEqual((joint.states, joint.arrows, joint.good, joint.laps, joint.chains),
                         (((0, 0),), ((),), (0,), (), ((),)))

    def test_hopeless_states_are_no_states(self):
        # from 1 no good one can be reached, though columns lead there
        joint = Joint([plain("ab")], Shape("ab", [[1, 0], [1, 1]], [0]))
        self.assertEqual((joint.states, joint.arrows), (((0, 0),), ((("b", 0),),)))

    def test_states_that_are_not_good_but_hopeful(self):
        joint = Joint([plain("a")], ring_shape(3, "a", (2,)))
        self.assertEqual((joint.states, joint.good, joint.laps), (((0, 0), (1, 0), (2, 0)), (2,), ((0, 1, 2),)))

    def test_each_column_runs_through_it(self):
        draw = random.Random(6)
        for _ in range(50):
            codes = [any_code(draw, "ab", 3), any_code(draw, "ab", 2)]
            shape = any_shape(draw, "ab", 4)
            joint = Joint(codes, shape)
            for column in columns("ab", 6):
                state = 0 if joint.states else None
                for value in column:
                    state = None if state is None else dict(joint.arrows[state]).get(value)
                self.assertEqual(state is not None and state in joint.good, shape.has(column))

    def test_sixty_states_and_more(self):
        self.assertEqual(len(Joint([ring_code(3), ring_code(4)], ring_shape(5)).states), 60)
        self.assertEqual(len(Joint([ring_code(20), ring_code(30)], ring_shape(12)).states), 60)
        self.assertEqual(len(Joint([ring_code(60)], every("a")).states), 60)
        for codes, shape in (([ring_code(61)], every("a")), ([ring_code(40), ring_code(39)], every("a")),
                             ([ring_code(8)], ring_shape(9)), ([ring_code(7), ring_code(9)], every("a")),
                             ([ring_code(37), ring_code(38), ring_code(39)] * 2, ring_shape(40))):
            with self.assertRaises(TooMany) as told:
                Joint(codes, shape)
            self.assertEqual(told.exception.what, "states")

    def test_only_states_of_the_joint_machine_count(self):
        # the codes alone would have far more together
        shape = finite_shape("a", ["a" * 30])
        self.assertEqual(len(Joint([ring_code(37), ring_code(38), ring_code(39)], shape).states), 31)
        rows = [[state + 1] for state in range(70)] + [[70]]
        self.assertEqual(len(Joint([plain("a")], Shape("a", rows, [59])).states), 60)
        with self.assertRaises(TooMany):
            Joint([plain("a")], Shape("a", rows, [60]))

    def test_unlike(self):
        for codes, shape in ((("ab",), "a"), (("a",), "ab"), (("a", "b"), "a"), (("ab", "ab", "ac"), "ab"),
                             (("a", "a"), "b"), (("ab", "abc"), "abc")):
            with self.assertRaises(Unlike):
                Joint([plain(values) for values in codes], every(shape))

    def test_unlike_comes_first(self):
        with self.assertRaises(Unlike):
            Joint([ring_code(61), ring_code(7, "b")], every("a"))
        with self.assertRaises(Unlike):
            Joint([ring_code(39), ring_code(40)], every("b"))
        with self.assertRaises(Unlike):
            Joint([plain("b")], Shape("a", [[0]], []))

    def test_one_to_six_codes(self):
        for many in range(1, 8):
            joint = Joint([ring_code(2)] * many, every("a"))
            self.assertEqual(joint.states, ((0,) * (many + 1), (0,) + (1,) * many))


class Chains(unittest.TestCase):

    def test_laps_are_numbered_by_their_least_states(self):
        # the lap that is met last has a state with a smaller number
        shape = Shape("ab", [[1, 2], [1, 4], [3, 4], [3, 1], [4, 4]], [1])
        joint = Joint([plain("ab")], shape)
        self.assertEqual((joint.laps, joint.chains), (((1,), (3,)), ((0, 1),)))

    def test_a_state_alone_needs_an_arrow_to_itself(self):
        joint = Joint([plain("ab")], Shape("ab", [[1, 1], [2, 1], [3, 3], [2, 2]], [0, 1, 2]))
        self.assertEqual((joint.laps, joint.chains), (((1,), (2, 3)), ((0, 1),)))

    def test_chains_may_share_laps(self):
        shape = Shape("abc", [[0, 1, 2], [1, 3, 4], [2, 3, 4], [3, 4, 4], [4, 4, 4]], range(4))
        self.assertEqual(Joint([plain("abc")], shape).chains, ((0, 1, 3), (0, 2, 3)))

    def test_a_lap_may_be_left_out_on_the_way(self):
        # from 0 straight to 2, but a greater set meets 1 as well
        shape = Shape("abc", [[0, 1, 2], [1, 2, 3], [2, 3, 3], [3, 3, 3]], [2])
        self.assertEqual(Joint([plain("abc")], shape).chains, ((0, 1, 2),))

    def test_sixty_four_and_more(self):
        joint = Joint([plain("abc")], layers(6))
        self.assertEqual((len(joint.laps), len(joint.chains)), (12, 64))
        self.assertEqual(joint.chains, told_chains(joint.states, joint.arrows, joint.good, joint.laps))
        self.assertEqual((joint.chains[0], joint.chains[1], joint.chains[-1]),
                         ((0, 2, 4, 6, 8, 10), (0, 2, 4, 6, 8, 11), (1, 3, 5, 7, 9, 11)))
        for shape in (layers(6, True), layers(7), layers(28)):
            joint = Joint([plain("abc")], shape)
            self.assertGreater(len(joint.laps), 12)
            for _ in range(2):
                with self.assertRaises(TooMany) as told:
                    len(joint.chains)
                self.assertEqual(told.exception.what, "chains")
        self.assertEqual(len(Look([plain("abc")], layers(6, True)).chains), 65)

    def test_many_ways_but_few_chains(self):
        # only states without laps lie between, so that all ways meet the same
        joint = Joint([plain("abc")], layers(28, lone=True))
        self.assertEqual((len(joint.laps), joint.chains), (2, ((0,), (1,))))

    def test_many_laps_in_one_chain(self):
        rows = [[state, min(state + 1, 59)] for state in range(60)]
        joint = Joint([plain("ab")], Shape("ab", rows, range(60)))
        self.assertEqual((joint.laps, joint.chains), (tuple((at,) for at in range(60)), (tuple(range(60)),)))

    def test_changes_have_many_chains(self):
        # three values, and two that may come next with each change
        self.assertEqual([len(Joint([plain("abc")], changes("abc", most)).chains) for most in (0, 1, 4)], [3, 6, 48])
        with self.assertRaises(TooMany):
            len(Joint([plain("abc")], changes("abc", 5)).chains)
        self.assertEqual(Joint([plain("ab")], changes("ab", 5)).chains, ((0, 2, 4, 6, 8, 10), (1, 3, 5, 7, 9, 11)))


if __name__ == "__main__":
    unittest.main()

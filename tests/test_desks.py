"""[90], [91]: desks, their guards, what can be undone and redone, trials."""

import inspect
import random
import unittest

from bestcodes.codes import Code
from bestcodes.desks import Desk
from bestcodes.errors import Busy, CodeError, NotKept, NothingLeft, TooMany, Unlike
from bestcodes.making import runs, table
from bestcodes.pairwise import Most, longer
from bestcodes.rates import rate
from bestcodes.several import Never, best
from bestcodes.shapes import Shape, changes, every, rising
from helpers import any_code, any_shape, finite_shape, flat, layers, prices, ring_code, ring_shape
from looks import Look

HUGE = 10 ** 30


def true_never(codes, base, shape):
    paper = best(codes, base, shape)
    look = Look([*codes, base], shape)
    assert look.right_never(paper) if isinstance(paper, Never) else look.right_grows(paper)
    return isinstance(paper, Never)


def true_guard(guard, codes, shape):
    """Whether a guard holds, if its codes are there and no function raises an error."""
    kind, *rest = guard
    if kind == "never":
        return true_never([codes[name] for name in rest[0]], codes[rest[1]], shape)
    if kind == "within":
        told = longer(codes[rest[0]], codes[rest[1]], shape)
        return told is None or isinstance(told, Most) and told.bits <= rest[2]
    if kind == "rate":
        told = rate([codes[name] for name in rest[0]], shape)
        return told is None or told.bits * rest[2] <= rest[1] * told.per
    return len(codes) == 1 or not any(
        true_never([codes[other] for other in codes if other != name], codes[name], shape) for name in codes)


class Plain:
    """What should stand on a desk, as plain lists that are copied with each deed."""

    def __init__(self, shape, codes):
        self.now = (shape, dict(codes))
        self.past, self.future, self.guards, self.trials = [], [], [], 0
        self.known = {}

    def holds(self, guard, shape, codes):
        # equal codes and shapes are asked but once, for the sake of time
        key = (guard, str(shape), *[f"{name} {codes[name]}" for name in sorted(codes)])
        if key not in self.known:
            try:
                self.known[key] = true_guard(guard, codes, shape)
            except (CodeError, KeyError):
                self.known[key] = False
        return self.known[key]

    def look(self, now):
        for guard in self.guards:
            if not self.holds(guard, *now):
                raise NotKept(guard)

    def change(self, now):
        self.look(now)
        self.past, self.future, self.now = [*self.past, self.now], [], now

    def put(self, name, code):
        if code.letters != self.now[0].letters:
            raise Unlike()
        self.change((self.now[0], {**self.now[1], name: code}))

    def drop(self, name):
        left = {other: code for other, code in self.now[1].items() if other != name}
        if len(left) == len(self.now[1]) or not left:
            raise NothingLeft()
        self.change((self.now[0], left))

    def shape_to(self, shape):
        if shape.letters != self.now[0].letters:
            raise Unlike()
        self.change((shape, self.now[1]))

    def keep(self, guard):
        if not self.holds(guard, *self.now):
            raise NotKept(guard)
        self.guards = [*self.guards, guard]

    def free(self, guard):
        if guard not in self.guards:
            raise NothingLeft()
        at = self.guards.index(guard)
        self.guards = self.guards[:at] + self.guards[at + 1:]

    def undo(self):
        self.go("past", "future")

    def redo(self):
        self.go("future", "past")

    def go(self, there, here):
        if self.trials:
            raise Busy()
        if not getattr(self, there):
            raise NothingLeft()
        *rest, then = getattr(self, there)
        self.look(then)
        setattr(self, there, rest)
        setattr(self, here, [*getattr(self, here), self.now])
        self.now = then

    def begin(self):
        self.trials += 1
        return self.now, self.past, self.future, self.guards

    def end(self, kept):
        self.trials -= 1
        self.now, self.past, self.future, self.guards = kept


class Quit(Exception):
    """An error that is none of the package, which leaves a trial."""


def told(call):
    """What a call tells, or its error with its fields."""
    try:
        return call()
    except CodeError as error:
        return type(error), vars(error)


class Desks(unittest.TestCase):

    def same(self, desk, plain):
        """Check that on the desk stands what should stand there."""
        shape, codes = plain.now
        self.assertEqual((desk.shape, desk.codes), (shape, codes))
        self.assertEqual(list(desk.codes), sorted(codes))
        self.assertEqual((desk.guards, desk.undoable, desk.redoable),
                         (tuple(plain.guards), len(plain.past), len(plain.future)))

    def deed(self, draw, values):
        """A deed with its arguments: the name of a method, and what it is passed."""
        names = draw.choice(("abc", "abcde"))
        kind = draw.choice(("put",) * 4 + ("drop", "shape_to") + ("keep",) * 4 + ("free",) + ("undo", "redo") * 4)
        if kind == "put":
            letters = draw.choice((values,) * 9 + ("xy",))
            make = draw.choice((lambda: any_code(draw, letters, 1, 3), lambda: any_code(draw, letters, 2, 3)))
            return kind, (draw.choice(names), make())
        if kind == "drop":
            return kind, (draw.choice(names),)
        if kind == "shape_to":
            letters = draw.choice((values,) * 9 + ("xy",))
            return kind, (draw.choice((every(letters), rising(letters), changes(letters, 0),
                                       any_shape(draw, letters, draw.randint(1, 3)))),)
        if kind in ("keep", "free"):
            return kind, (self.guard(draw, names),)
        return kind, ()

    def guard(self, draw, names):
        lot = tuple(sorted(draw.sample(names, draw.randint(1, 2))))
        return draw.choice((("never", lot, draw.choice(names)),
                            ("within", *draw.choices(names, k=2), draw.randint(-2, 9)),
                            ("rate", lot, draw.randint(0, 4), draw.randint(1, 2)), ("needed",)))

    def both(self, desk, plain, draw, values, met, depth):
        """Do a drawn deed, or a trial with deeds in it, at the desk and beside it."""
        if draw.random() < 0.15 and depth < 3:
            self.trial(desk, plain, draw, values, met, depth)
        else:
            kind, arguments = self.deed(draw, values)
            if kind == "free" and desk.guards and draw.random() < 0.5:
                arguments = (draw.choice(desk.guards),)
            one = told(lambda: getattr(desk, kind)(*arguments))
            other = told(lambda: getattr(plain, kind)(*arguments))
            self.assertEqual(one, other, (kind, arguments))
            met[kind, one and one[0]] = met.get((kind, one and one[0]), 0) + 1
        self.same(desk, plain)

    def trial(self, desk, plain, draw, values, met, depth):
        ends = draw.random()
        kept = plain.begin()

        def action(given):
            self.assertIs(given, desk)
            for _ in range(draw.randint(0, 6)):
                self.both(given, plain, draw, values, met, depth + 1)
            if ends < 0.3:
                raise Quit()
            if ends < 0.5:
                given.undo()
            return ends

        if ends < 0.3:
            self.assertRaises(Quit, desk.tried, action)
        elif ends < 0.5:
            self.assertRaises(Busy, desk.tried, action)
        else:
            self.assertEqual(desk.tried(action), ends)
        plain.end(kept)
        self.same(desk, plain)
        met["trial", depth] = met.get(("trial", depth), 0) + 1

    def test_drawn_histories(self):
        met = {}
        for seed in range(150):
            draw = random.Random(seed)
            values = draw.choice(("a", "ab", "ab"))
            names = draw.sample("abc", draw.randint(1, 3))
            codes = {name: any_code(draw, values, draw.randint(1, 2), 3) for name in names}
            shape = draw.choice((every(values), rising(values)))
            desk, plain = Desk(shape, codes), Plain(shape, codes)
            self.same(desk, plain)
            for _ in range(80):
                self.both(desk, plain, draw, values, met, 0)
        for kind in ("put", "drop", "shape_to", "undo", "redo", "keep"):
            self.assertGreater(met.get((kind, None), 0), 10, (kind, met))
            self.assertGreater(met.get((kind, NotKept), 0), 3, (kind, met))
        for kind in ("drop", "undo", "redo", "free"):
            self.assertGreater(met.get((kind, NothingLeft), 0), 10, (kind, met))
        for kind in (("put", Unlike), ("shape_to", Unlike), ("undo", Busy), ("redo", Busy), ("free", None),
                     ("trial", 2)):
            self.assertGreater(met.get(kind, 0), 10, kind)

    def test_the_example(self):
        codes = {"flat": flat("ab", 3), "one": prices(a=2, b=5), "two": prices(a=5, b=2)}
        desk = Desk(changes("ab", 0), codes)
        self.assertIsNone(desk.keep(("never", ("one", "two"), "flat")))
        self.assertEqual((desk.undoable, desk.tried(lambda given: len(given.codes)), desk.guards),
                         (0, 3, (("never", ("one", "two"), "flat"),)))

    def test_the_names_of_the_interface(self):
        names = {Desk: "shape codes", Desk.put: "self name code", Desk.drop: "self name", Desk.shape_to: "self shape",
                 Desk.keep: "self guard", Desk.free: "self guard", Desk.undo: "self", Desk.redo: "self",
                 Desk.tried: "self action"}
        for call, told_names in names.items():
            self.assertEqual(list(inspect.signature(call).parameters), told_names.split())
        desk = Desk(codes={"x": flat("a", 1)}, shape=every("a"))
        for call in (lambda: desk.put(code=flat("a", 2), name="y"), lambda: desk.drop(name="y"),
                     lambda: desk.shape_to(shape=ring_shape(2)), lambda: desk.keep(guard=("needed",)),
                     lambda: desk.free(guard=("needed",)), desk.undo, desk.redo):
            self.assertIsNone(call())
        self.assertEqual(desk.tried(action=lambda given: given.undoable), 3)

    def test_a_new_desk(self):
        codes = {"zz": flat("ab", 1), "b": flat("ab", 2), "aaaaaaaa": flat("ab", 3), "ab": flat("ab", 3)}
        desk = Desk(rising("ab"), codes)
        self.assertEqual((desk.shape, desk.codes, desk.guards, desk.undoable, desk.redoable),
                         (rising("ab"), codes, (), 0, 0))
        self.assertEqual((list(desk.codes), list(codes)),
                         (["aaaaaaaa", "ab", "b", "zz"], ["zz", "b", "aaaaaaaa", "ab"]))
        codes["c"] = flat("ab", 5)
        del codes["zz"]
        self.assertEqual(list(desk.codes), ["aaaaaaaa", "ab", "b", "zz"])
        for values in (("ab", "b"), ("b", "ab"), ("ab", "abc", "ab")):
            with self.assertRaises(Unlike):
                Desk(every("ab"), dict(zip("xyz", [flat(letters, 1) for letters in values])))

    def test_codes_that_were_taken_stay(self):
        desk = Desk(every("a"), {"m": flat("a", 1)})
        taken = [desk.codes]
        desk.put("b", flat("a", 2))
        taken.append(desk.codes)
        desk.put("m", flat("a", 3))
        taken.append(desk.codes)
        desk.drop("b")
        taken.append(desk.codes)
        desk.undo()
        desk.tried(lambda given: given.put("x", flat("a", 4)))
        self.assertEqual([{name: code.rows[0][0][1] for name, code in codes.items()} for codes in taken],
                         [{"m": 1}, {"b": 2, "m": 1}, {"b": 2, "m": 3}, {"m": 3}])
        self.assertEqual([list(codes) for codes in taken], [["m"], ["b", "m"], ["b", "m"], ["m"]])
        self.assertEqual(desk.codes, taken[2])


class Guards(unittest.TestCase):

    def setUp(self):
        self.desk = Desk(changes("ab", 0), {"flat": flat("ab", 3), "one": prices(a=2, b=5), "two": prices(a=5, b=2)})

    def refused(self, guard, call, *arguments):
        """Check that a call breaks this guard, and changes nothing."""
        desk = self.desk
        before = desk.shape, desk.codes, desk.guards, desk.undoable, desk.redoable
        with self.assertRaises(NotKept) as error:
            call(*arguments)
        self.assertEqual(error.exception.guard, guard)
        self.assertEqual((desk.shape, desk.codes, desk.guards, desk.undoable, desk.redoable), before)

    def test_never(self):
        desk, guard = self.desk, ("never", ("one", "two"), "flat")
        self.assertIsNone(desk.keep(guard))
        self.refused(guard, desk.shape_to, rising("ab"))
        self.refused(guard, desk.put, "flat", flat("ab", 1))
        self.refused(guard, desk.put, "one", prices(a=4, b=0))
        desk.put("flat", flat("ab", 2))
        desk.put("three", flat("ab", 0))
        for lot in (("one",), ("two",), ("flat",)):
            self.refused(("never", lot, "three"), desk.keep, ("never", lot, "three"))
        desk.keep(("never", ("flat", "one", "three", "two"), "three"))
        desk.keep(("never", ("three",), "three"))
        self.assertEqual(len(desk.guards), 3)

    def test_within_at_its_bound(self):
        desk = self.desk
        desk.shape_to(finite_shape("ab", ["", "aab", "b"]))
        # flat is longer than one by 2 - 2 on aab, and by -2 on b: 0 on the empty column
        for bits, kept in ((0, True), (1, True), (HUGE, True), (-1, False), (-HUGE, False)):
            guard = ("within", "flat", "one", bits)
            if kept:
                desk.keep(guard)
            else:
                self.refused(guard, desk.keep, guard)
        # now a is dearer by flat by 2: 2 * 2 - 1 on aab
        desk.free(("within", "flat", "one", 0))
        self.refused(("within", "flat", "one", 1), desk.put, "one", prices(a=1, b=4))
        desk.free(("within", "flat", "one", 1))
        desk.put("one", prices(a=1, b=4))
        for bits, kept in ((3, True), (4, True), (2, False)):
            guard = ("within", "flat", "one", bits)
            if kept:
                desk.keep(guard)
            else:
                self.refused(guard, desk.keep, guard)
        self.refused(("within", "flat", "one", 3), desk.put, "flat", flat("ab", 4))

    def test_within_that_rises_or_has_no_columns(self):
        desk = self.desk
        self.refused(("within", "flat", "one", HUGE), desk.keep, ("within", "flat", "one", HUGE))
        desk.shape_to(finite_shape("ab", []))
        guard = ("within", "flat", "one", -HUGE)
        desk.keep(guard)
        self.refused(guard, desk.shape_to, finite_shape("ab", [""]))
        self.refused(guard, desk.undo)

    def test_rate_at_its_bound(self):
        desk = self.desk
        desk.shape_to(rising("ab"))
        lot = ("one", "two")
        for bits, per, kept in ((7, 2, True), (14, 4, True), (7 * HUGE, 2 * HUGE, True), (4, 1, True),
                                (7 * HUGE + 1, 2 * HUGE, True), (7 * HUGE - 1, 2 * HUGE, False), (3, 1, False),
                                (0, 1, False), (-4, 1, False)):
            guard = ("rate", lot, bits, per)
            if kept:
                desk.keep(guard)
            else:
                self.refused(guard, desk.keep, guard)
        self.refused(("rate", lot, 7, 2), desk.put, "one", prices(a=3, b=5))
        desk.put("one", prices(a=1, b=5))
        desk.shape_to(finite_shape("ab", ["ab"]))
        desk.keep(("rate", lot, 0, 1))
        desk.keep(("rate", lot, -1, 1))
        self.refused(("rate", lot, 0, 1), desk.shape_to, changes("ab", 0))

    def test_needed(self):
        desk = self.desk
        self.refused(("needed",), desk.keep, ("needed",))
        desk.shape_to(every("ab"))
        desk.keep(("needed",))
        self.refused(("needed",), desk.put, "more", flat("ab", 3))
        self.refused(("needed",), desk.put, "flat", flat("ab", 4))
        self.refused(("needed",), desk.shape_to, changes("ab", 0))
        self.refused(("needed",), desk.undo)
        desk.drop("one")
        desk.drop("two")
        desk.shape_to(finite_shape("ab", []))
        self.refused(("needed",), desk.put, "one", flat("ab", 3))

    def test_names_under_which_no_code_stands(self):
        desk = self.desk
        desk.shape_to(finite_shape("ab", []))
        for guard in (("never", ("gone",), "flat"), ("never", ("flat", "gone"), "flat"), ("never", ("flat",), "gone"),
                      ("within", "gone", "flat", 9), ("within", "flat", "gone", 9), ("rate", ("gone",), 9, 1),
                      ("rate", ("flat", "gone"), 9, 1), ("never", ("a", "b", "c", "d", "e", "f"), "flat")):
            self.refused(guard, desk.keep, guard)
        guards = [("never", ("flat", "one"), "flat"), ("never", ("flat",), "two"), ("within", "flat", "one", 1),
                  ("within", "two", "flat", 1), ("rate", ("one", "two"), 9, 1)]
        for guard in guards:
            desk.keep(guard)
        self.refused(guards[0], desk.drop, "one")
        self.refused(guards[0], desk.drop, "flat")
        self.refused(guards[1], desk.drop, "two")
        desk.put("three", flat("ab", 9))
        desk.drop("three")
        for guard in guards[:3]:
            desk.free(guard)
        self.refused(guards[4], desk.drop, "one")
        self.refused(guards[3], desk.drop, "two")

    def test_a_function_that_raises_an_error(self):
        # a joint machine of more than 60 states, or with more than 64 chains
        desk = Desk(every("a"), {"one": ring_code(7), "two": ring_code(8), "big": ring_code(40)})
        for guard in (("never", ("big",), "one"), ("within", "one", "big", 9), ("rate", ("big", "one"), 9, 1),
                      ("needed",), ("within", "big", "one", HUGE)):
            with self.assertRaises(NotKept) as error:
                desk.keep(guard)
            self.assertEqual(error.exception.guard, guard)
        guard = ("within", "one", "two", 0)
        desk.keep(guard)
        with self.assertRaises(NotKept):
            desk.put("two", ring_code(9))
        with self.assertRaises(NotKept):
            desk.shape_to(ring_shape(3))
        desk.shape_to(ring_shape(2))
        many = Desk(layers(6), {"one": flat("abc", 1), "two": flat("abc", 2)})
        for guard in (("never", ("one",), "two"), ("rate", ("one", "two"), 1, 1)):
            many.keep(guard)
            with self.assertRaises(NotKept) as error:
                many.shape_to(layers(7))
            self.assertEqual(error.exception.guard, guard)
            with self.assertRaises(NotKept):
                many.shape_to(layers(6, True))
            many.free(guard)
        many.keep(("within", "one", "two", 0))
        many.shape_to(layers(7))

    def test_the_first_guard_that_breaks(self):
        desk = self.desk
        guards = [("rate", ("one", "two"), 2, 1), ("never", ("one", "two"), "flat"), ("rate", ("one",), 5, 1)]
        for guard in guards:
            desk.keep(guard)
        self.refused(guards[0], desk.shape_to, rising("ab"))
        self.refused(guards[1], desk.put, "flat", flat("ab", 1))
        self.refused(guards[2], desk.put, "one", prices(a=2, b=6))
        self.refused(guards[0], desk.put, "one", prices(a=3, b=6))
        desk.free(guards[0])
        self.refused(guards[1], desk.shape_to, rising("ab"))
        self.refused(guards[2], desk.put, "one", prices(a=3, b=6))

    def test_keep_and_free(self):
        desk = self.desk
        first, second = ("never", ("one", "two"), "flat"), ("rate", ("one",), 5, 1)
        for guard in (first, second, first):
            desk.keep(guard)
        self.assertEqual(desk.guards, (first, second, first))
        desk.free(("never", ("one", "two"), "flat"))
        self.assertEqual(desk.guards, (second, first))
        with self.assertRaises(NothingLeft):
            desk.free(("never", ("one",), "flat"))
        desk.free(first)
        with self.assertRaises(NothingLeft):
            desk.free(first)
        self.assertEqual((desk.guards, desk.undoable, desk.redoable), ((second,), 0, 0))

    def test_keep_and_free_are_no_changes(self):
        desk = self.desk
        desk.put("x", flat("ab", 9))
        desk.put("y", flat("ab", 8))
        desk.undo()
        desk.keep(("rate", ("one",), 5, 1))
        self.assertEqual((desk.undoable, desk.redoable), (1, 1))
        desk.undo()
        self.assertEqual((desk.guards, desk.undoable, desk.redoable), ((("rate", ("one",), 5, 1),), 0, 2))
        desk.redo()
        desk.free(("rate", ("one",), 5, 1))
        desk.redo()
        self.assertEqual((desk.guards, desk.undoable, desk.redoable), ((), 2, 0))

    def test_forty_guards(self):
        desk = self.desk
        guards = [("rate", ("one",), 5 + many, 1) for many in range(39)] + [("never", ("one", "two"), "flat")]
        for guard in guards:
            desk.keep(guard)
        self.assertEqual(desk.guards, tuple(guards))
        self.refused(guards[-1], desk.put, "flat", flat("ab", 1))
        self.refused(guards[0], desk.put, "one", prices(a=2, b=6))
        desk.put("one", prices(a=2, b=5))
        desk.put("two", prices(a=5, b=3))
        for many in range(20):
            desk.free(guards[many])
        self.refused(guards[20], desk.put, "one", prices(a=2, b=26))
        desk.put("one", prices(a=2, b=25))
        # back to the codes that stood before: 5 is at most 25
        desk.undo()
        self.assertEqual(desk.codes["one"], prices(a=2, b=5))

    def test_a_code_may_take_the_place_of_one_that_guards_are_about(self):
        desk = self.desk
        desk.keep(("within", "one", "one", 0))
        desk.put("one", runs("ab", 3, {"a": 1, "b": 1}))
        self.refused(("within", "one", "one", 0), desk.drop, "one")


class Changes(unittest.TestCase):

    def test_errors_in_their_order(self):
        desk = Desk(every("ab"), {"one": flat("ab", 1)})
        guard = ("rate", ("one",), 1, 1)
        desk.keep(guard)
        for call, error in ((lambda: desk.put("one", flat("a", 9)), Unlike),
                            (lambda: desk.put("x", flat("abc", 1)), Unlike),
                            (lambda: desk.shape_to(every("ac")), Unlike), (lambda: desk.drop("x"), NothingLeft),
                            (lambda: desk.drop("one"), NothingLeft), (lambda: desk.put("one", flat("ab", 2)), NotKept),
                            (desk.undo, NothingLeft), (desk.redo, NothingLeft)):
            with self.assertRaises(CodeError) as raised:
                call()
            self.assertIs(type(raised.exception), error)
            self.assertEqual((desk.undoable, desk.redoable, list(desk.codes)), (0, 0, ["one"]))
        desk.put("two", flat("ab", 2))
        with self.assertRaises(NotKept):
            desk.drop("one")
        desk.drop("two")
        self.assertEqual((desk.undoable, desk.redoable), (2, 0))

    def test_undo_and_redo_may_break_guards(self):
        desk = Desk(every("ab"), {"one": flat("ab", 2)})
        desk.put("one", flat("ab", 1))
        desk.put("one", flat("ab", 3))
        desk.undo()
        guards = [("rate", ("one",), 9, 1), ("rate", ("one",), 1, 1)]
        for guard in guards:
            desk.keep(guard)
        for call in (desk.undo, desk.redo, desk.undo):
            with self.assertRaises(NotKept) as error:
                call()
            self.assertEqual(error.exception.guard, guards[1])
            self.assertEqual((desk.codes["one"], desk.undoable, desk.redoable), (flat("ab", 1), 1, 1))
        desk.free(guards[1])
        desk.redo()
        self.assertEqual((desk.codes["one"], desk.undoable, desk.redoable), (flat("ab", 3), 2, 0))
        with self.assertRaises(NothingLeft):
            desk.redo()

    def test_equal_puts_and_shapes_are_changes(self):
        desk = Desk(every("ab"), {"one": flat("ab", 2)})
        desk.keep(("rate", ("one",), 2, 1))
        desk.put("one", flat("ab", 2))
        desk.shape_to(every("ab"))
        desk.put("one", desk.codes["one"])
        desk.shape_to(desk.shape)
        self.assertEqual((desk.undoable, desk.redoable), (4, 0))
        desk.undo()
        desk.undo()
        self.assertEqual((desk.undoable, desk.redoable), (2, 2))
        desk.put("one", flat("ab", 2))
        self.assertEqual((desk.undoable, desk.redoable), (3, 0))

    def test_errors_leave_what_can_be_redone(self):
        desk = Desk(every("ab"), {"one": flat("ab", 2)})
        desk.put("two", flat("ab", 3))
        desk.undo()
        desk.keep(("rate", ("one",), 2, 1))
        for call in (lambda: desk.put("one", flat("ab", 3)), lambda: desk.put("one", flat("a", 3)),
                     lambda: desk.drop("two"), lambda: desk.shape_to(every("a")), desk.undo):
            self.assertRaises(CodeError, call)
            self.assertEqual((desk.undoable, desk.redoable), (0, 1))
        desk.redo()
        self.assertEqual(list(desk.codes), ["one", "two"])

    def test_more_than_a_hundred_changes(self):
        desk = Desk(every("a"), {"x": flat("a", 0)})
        shapes = [every("a"), ring_shape(2), ring_shape(3), ring_shape(4)]
        stood = [(desk.shape, desk.codes)]
        for many in range(1, 301):
            if many % 3 == 0:
                desk.shape_to(shapes[many % 4])
            elif many % 7 == 0 and "y" in desk.codes:
                desk.drop("y")
            else:
                desk.put("xyz"[many % 3], flat("a", many))
            stood.append((desk.shape, desk.codes))
            self.assertEqual((desk.undoable, desk.redoable), (many, 0))
        for many in range(299, -1, -1):
            desk.undo()
            self.assertEqual((desk.shape, desk.codes, desk.undoable, desk.redoable), (*stood[many], many, 300 - many))
        self.assertRaises(NothingLeft, desk.undo)
        for many in range(1, 301):
            desk.redo()
            self.assertEqual((desk.shape, desk.codes, desk.undoable, desk.redoable), (*stood[many], many, 300 - many))
        self.assertRaises(NothingLeft, desk.redo)

    def test_thousands_of_changes(self):
        desk, code = Desk(every("a"), {"x": flat("a", 0)}), flat("a", 1)
        for _ in range(5000):
            desk.put("x", code)
        for _ in range(3000):
            desk.undo()
        desk.tried(lambda given: given.drop("x") if len(given.codes) > 1 else given.put("y", code))
        self.assertEqual((desk.undoable, desk.redoable), (2000, 3000))
        for _ in range(3000):
            desk.redo()
        self.assertEqual((desk.undoable, desk.redoable), (5000, 0))


class Trials(unittest.TestCase):

    def test_what_an_action_returns_is_told(self):
        desk = Desk(every("a"), {"x": flat("a", 0)})
        for some in (None, 7, [], "abc", desk):
            self.assertIs(desk.tried(lambda given: some), some)
        self.assertEqual(desk.tried(lambda given: (given is desk, given.put("y", flat("a", 1)), len(given.codes))),
                         (True, None, 2))
        self.assertEqual(list(desk.codes), ["x"])

    def busy_desk(self):
        """A desk with three changes to undo, two to redo, and two guards."""
        desk = Desk(every("ab"), {"x": flat("ab", 1), "y": flat("ab", 2)})
        for many in range(5):
            desk.put("z", flat("ab", many))
        desk.undo()
        desk.undo()
        desk.keep(("rate", ("x",), 1, 1))
        desk.keep(("never", ("x",), "y"))
        return desk

    def fields(self, desk):
        return desk.shape, desk.codes, desk.guards, desk.undoable, desk.redoable

    def test_all_is_as_it_was(self):
        desk = self.busy_desk()
        before = self.fields(desk)
        seen = []

        def action(given):
            given.put("w", flat("ab", 9))
            seen.append((given.undoable, given.redoable))
            given.drop("z")
            given.free(("rate", ("x",), 1, 1))
            given.shape_to(rising("ab"))
            given.keep(("rate", ("w",), 9, 1))
            seen.append((given.undoable, given.redoable, list(given.codes), given.guards, given.shape == rising("ab")))
            return "told"

        self.assertEqual(desk.tried(action), "told")
        self.assertEqual(self.fields(desk), before)
        guards = (("never", ("x",), "y"), ("rate", ("w",), 9, 1))
        self.assertEqual(seen, [(4, 0), (6, 0, ["w", "x", "y"], guards, True)])
        # what could be undone and redone before is what it was
        desk.redo()
        desk.redo()
        self.assertEqual((desk.codes["z"], desk.redoable), (flat("ab", 4), 0))
        for many in (3, 2, 1, 0):
            desk.undo()
            self.assertEqual(desk.codes["z"], flat("ab", many))
        desk.undo()
        self.assertEqual((list(desk.codes), desk.undoable, desk.redoable), (["x", "y"], 0, 5))

    def test_errors_go_on(self):
        desk = self.busy_desk()
        before = self.fields(desk)

        def quits(given):
            given.put("w", flat("ab", 9))
            given.free(("rate", ("x",), 1, 1))
            raise Quit()

        def breaks(given):
            given.put("w", flat("ab", 9))
            given.put("x", flat("ab", 2))

        def asks(given):
            given.drop("z")
            given.codes["w"].length("ab")

        for action, error in ((quits, Quit), (breaks, NotKept), (asks, KeyError), (lambda given: given.undo(), Busy),
                              (lambda given: given.redo(), Busy), (lambda given: 1 // 0, ZeroDivisionError)):
            self.assertRaises(error, desk.tried, action)
            self.assertEqual(self.fields(desk), before)
            desk.undo()
            desk.redo()
            self.assertEqual(self.fields(desk), before)

    def test_busy_comes_first(self):
        desk = Desk(every("ab"), {"x": flat("ab", 1)})

        def action(given):
            for call in (given.undo, given.redo):
                self.assertRaises(Busy, call)
            given.put("y", flat("ab", 2))
            for call in (given.undo, given.redo):
                self.assertRaises(Busy, call)
            self.assertEqual((given.undoable, given.redoable), (1, 0))

        desk.tried(action)
        # at the outside there is nothing to undo, and no trial goes on
        self.assertRaises(NothingLeft, desk.undo)
        self.assertRaises(NothingLeft, desk.redo)
        # also if what is to come would break a guard
        desk.put("x", flat("ab", 0))
        desk.keep(("rate", ("x",), 0, 1))
        self.assertRaises(NotKept, desk.undo)
        self.assertRaises(Busy, desk.tried, lambda given: given.undo())

    def test_trials_within_trials(self):
        desk = self.busy_desk()
        before = self.fields(desk)

        def inner(given):
            given.put("v", flat("ab", 8))
            self.assertRaises(Busy, given.undo)
            self.assertEqual(given.undoable, 5)
            return given.tried(lambda third: (third.drop("v"), list(third.codes), third.undoable)[1:])

        def outer(given):
            given.put("w", flat("ab", 9))
            middle = self.fields(given)
            self.assertEqual(given.tried(inner), (["w", "x", "y", "z"], 6))
            self.assertEqual(self.fields(given), middle)
            self.assertRaises(Quit, given.tried, self.quits)
            self.assertEqual(self.fields(given), middle)
            # the outer trial still goes on
            self.assertRaises(Busy, given.undo)
            self.assertRaises(Busy, given.redo)
            given.drop("w")
            return given.undoable, given.redoable

        self.assertEqual(desk.tried(outer), (5, 0))
        self.assertEqual(self.fields(desk), before)
        desk.redo()
        self.assertEqual((desk.undoable, desk.redoable), (4, 1))

    def quits(self, given):
        given.put("v", flat("ab", 8))
        raise Quit()

    def test_a_desk_that_was_used_within_stays_whole(self):
        # a change behind a trial makes that nothing can be redone, as ever
        desk = self.busy_desk()
        desk.tried(lambda given: given.put("a", flat("ab", 1)))
        desk.put("b", flat("ab", 1))
        self.assertEqual((desk.undoable, desk.redoable, list(desk.codes)), (4, 0, ["b", "x", "y", "z"]))
        desk.undo()
        self.assertEqual((desk.undoable, desk.redoable, list(desk.codes)), (3, 1, ["x", "y", "z"]))

    def test_two_desks(self):
        one, two = self.busy_desk(), self.busy_desk()

        def action(given):
            two.undo()
            given.put("w", flat("ab", 3))
            return two.undoable

        self.assertEqual(one.tried(action), 2)
        self.assertEqual((two.undoable, two.redoable, one.undoable), (2, 3, 3))


class Whole(unittest.TestCase):

    def test_codes_and_shapes_stay(self):
        code, shape = table("ab", {"a": 1, "b": 2}), rising("ab")
        before = str(code), str(shape)
        desk = Desk(shape, {"x": code})
        desk.put("y", Code.read(str(code)))
        desk.shape_to(Shape.read(str(shape)))
        desk.keep(("never", ("x",), "y"))
        desk.undo()
        self.assertEqual((str(code), str(shape)), before)

    def test_guards_with_great_numbers(self):
        desk = Desk(every("a"), {"x": flat("a", HUGE), "y": flat("a", HUGE + 1)})
        desk.keep(("rate", ("x",), HUGE * 10 ** 4000, 10 ** 4000))
        desk.keep(("within", "x", "y", 10 ** 4000))
        with self.assertRaises(NotKept):
            desk.keep(("rate", ("x",), HUGE * 10 ** 4000 - 1, 10 ** 4000))
        self.assertEqual(len(desk.guards), 2)

    def test_joint_machines_that_are_too_large_for_no_guard(self):
        # only guards look at joint machines
        desk = Desk(every("a"), {"x": ring_code(40), "y": ring_code(39)})
        desk.put("z", ring_code(37))
        desk.shape_to(ring_shape(38))
        desk.undo()
        with self.assertRaises(TooMany):
            longer(desk.codes["x"], desk.codes["y"], desk.shape)


if __name__ == "__main__":
    unittest.main()

"""Section 4: programs, their steps and their runs."""

import itertools
import types
import unittest

from fitruns import programs
from fitruns.errors import BadLength, BadProgram, NoKind, NoStep
from fitruns.programs import Program
from tests.support import ANY_VALUES, FitTest, ascends, is_int, is_like, is_name, twists

DIAMOND = (
    ("a", (("x", 1),), ("b", "c")),
    ("b", (("x", 2), ("y", 1)), ("d",)),
    ("c", (("y", 3),), ("d",)),
    ("d", (), ()),
)
# Its names are not in order, one step has the name of a kind, one follows itself, to one nothing leads.
LOOPS = (
    ("m", (("a", 5),), ("a", "m", "z")),
    ("z", (), ("b",)),
    ("a", (("m", 1), ("z", 4)), ("m", "z")),
    ("lost", (("q", 2),), ("b", "lost", "m")),
    ("b", (("z", 1),), ()),
)
RING = (("c", (), ("a",)), ("a", (("k", 1),), ("b",)), ("b", (("k", 3),), ("c",)))
ALONE = (("only", (), ()),)
STAYS = (("on", (("tick", 1),), ("on",)),)
# Each way out of the first step comes to an end, sooner or later.
ENDS = (
    ("a", (), ("a", "b")),
    ("b", (), ("c",)),
    ("c", (), ("d",)),
    ("d", (), ()),
)
FULL = tuple((name, (), ("a", "b", "c")) for name in "abc")
TEN = tuple(
    (name, (("even" if place % 2 == 0 else "odd", place % 5 + 1),), tuple(sorted({"j", (letters + "a")[place + 1]})))
    for letters in ("abcdefghij",) for place, name in enumerate(letters)
)
WIDE = (("abcdefgh", tuple((kind * 8, 5) for kind in "abcdefghijklmnopqrstuvwxyz"), ("abcdefgh", "zzzzzzzz")),
        ("zzzzzzzz", (("z", 1),), ()))

RIGHT = {
    "diamond": DIAMOND, "loops": LOOPS, "ring": RING, "alone": ALONE, "stays": STAYS, "ends": ENDS, "full": FULL,
    "ten": TEN, "wide": WIDE,
}


def is_program(value):
    """What the document says of the steps of a program, word for word."""
    if type(value) is not tuple or len(value) < 1:
        return False
    for step in value:
        if type(step) is not tuple or len(step) != 3 or not is_name(step[0]):
            return False
        if type(step[1]) is not tuple or type(step[2]) is not tuple:
            return False
        for pair in step[1]:
            if type(pair) is not tuple or len(pair) != 2 or not is_name(pair[0]):
                return False
            if not is_int(pair[1]) or pair[1] not in (1, 2, 3, 4, 5):
                return False
        kinds = [pair[0] for pair in step[1]]
        if len(kinds) != len(set(kinds)) or not ascends(step[1]):
            return False
    names = [step[0] for step in value]
    for step in value:
        if not all(type(name) is str and name in names for name in step[2]):
            return False
        if len(step[2]) > 3 or not ascends(step[2]):
            return False
    return len(names) == len(set(names))


def table_of(steps):
    return {name: following for name, _, following in steps}


def is_run(steps, value):
    """What the document says of runs, word for word."""
    if type(value) is not tuple or len(value) < 1 or not all(type(name) is str for name in value):
        return False
    if value[0] != steps[0][0]:
        return False
    return all(value[place] in table_of(steps)[value[place - 1]] for place in range(1, len(value)))


def is_whole(steps, value):
    return is_run(steps, value) and table_of(steps)[value[-1]] == ()


def all_runs(steps, length):
    names = sorted(step[0] for step in steps)
    return [run for run in itertools.product(names, repeat=length) if is_run(steps, run)]


class TestExamples(FitTest):
    def test_the_first_one(self):
        program = Program((('a', (('x', 1),), ('b', 'c')), ('b', (('x', 2), ('y', 1)), ('d',)), ('c', (('y', 3),), ('d',)), ('d', (), ())))
        self.assert_like(
            [program.kinds, program.following('a'), program.many('c', 'x'), tuple(program.runs(3)), tuple(program.runs(4))],
            [('x', 'y'), ('b', 'c'), 0, (('a', 'b', 'd'), ('a', 'c', 'd')), ()])

    def test_the_second_one(self):
        self.assert_raises_just(BadProgram, (value := (('a', (), ('b',)),)), Program, value)
        self.assertEqual(value, (('a', (), ('b',)),))


class TestInterface(FitTest):
    def test_the_class_is_defined_in_its_file(self):
        self.assertEqual(programs.Program.__module__, "fitruns.programs")

    def test_the_methods_are_defined_in_the_class(self):
        for name in ("following", "many", "is_run", "is_whole", "runs", "__contains__", "__eq__"):
            self.assertIn(name, Program.__dict__)

    def test_arguments_by_name(self):
        program = Program(steps=DIAMOND)
        self.assertEqual(program.following(name="a"), ("b", "c"))
        self.assertEqual(program.many(kind="y", name="c"), 3)
        self.assertIs(program.is_run(value=("a", "b")), True)
        self.assertIs(program.is_whole(value=("a", "b", "d")), True)
        self.assertEqual(list(program.runs(length=2)), [("a", "b"), ("a", "c")])


class TestProgram(FitTest):
    def test_right_programs_have_their_attributes(self):
        for word, steps in RIGHT.items():
            with self.subTest(word):
                before = repr(steps)
                program = Program(steps)
                self.assert_like(program.steps, steps)
                self.assert_like(program.names, tuple(step[0] for step in steps))
                self.assert_like(program.kinds, tuple(sorted({kind for step in steps for kind, _ in step[1]})))
                self.assertEqual(repr(steps), before)

    def test_names_are_in_order_and_kinds_ascending(self):
        program = Program(LOOPS)
        self.assert_like(program.names, ("m", "z", "a", "lost", "b"))
        self.assert_like(program.kinds, ("a", "m", "q", "z"))
        self.assert_like(Program(ALONE).kinds, ())

    def test_any_value_is_no_program(self):
        for value in ANY_VALUES:
            if not is_program(value):
                self.assert_raises_just(BadProgram, value, Program, value)

    def test_right_steps_with_one_part_otherwise(self):
        right = wrong = 0
        for steps in (DIAMOND, LOOPS, RING, ALONE, STAYS):
            for value in twists(steps):
                if is_program(value):
                    right += 1
                    self.assert_like(Program(value).steps, value)
                else:
                    wrong += 1
                    self.assert_raises_just(BadProgram, value, Program, value)
        self.assertGreater(right, 100)
        self.assertGreater(wrong, 1000)

    def test_many_is_from_1_to_5(self):
        for many in range(1, 6):
            self.assertEqual(Program((("a", (("x", many),), ()),)).many("a", "x"), many)
        for many in (0, 6, -1, 10, True, False, None, "1", (1,), [1]):
            steps = (("a", (("x", many),), ()),)
            self.assert_raises_just(BadProgram, steps, Program, steps)

    def test_names_of_steps_and_kinds_have_1_to_8_letters(self):
        for name in ("a", "z", "abcdefgh", "stuvwxyz", "zzzzzzzz"):
            program = Program(((name, ((name, 1),), (name,)),))
            self.assertEqual([program.names, program.kinds, program.following(name)], [(name,)] * 3)
        wrong = ("", "abcdefghi", "A", "aB", "a1", "a ", " a", "a\n", "a_b", "a`", "{", "\u00e9", "\uff41", "\u0430")
        for name in wrong + (None, 1, True, ("a",), ["a"], {"a": 1}):
            for steps in (((name, (), ()),), (("a", ((name, 1),), ()),), ((name, (), (name,)),)):
                self.assert_raises_just(BadProgram, steps, Program, steps)

    def test_at_most_3_names_follow(self):
        names = ("a", "b", "c", "d")
        for many in range(4):
            steps = (("a", (), names[:many]),) + tuple((name, (), ()) for name in names[1:])
            self.assertEqual(Program(steps).following("a"), names[:many])
        steps = (("a", (), names),) + tuple((name, (), ()) for name in names[1:])
        self.assert_raises_just(BadProgram, steps, Program, steps)

    def test_what_follows_ascends_and_has_names_of_steps(self):
        rest = (("b", (), ()), ("c", (), ()))
        for following in (("b", "a"), ("a", "a"), ("a", "c", "b"), ("b", "b", "c"), ("d",), ("a", "d"), ("x",), ("",),
                          (1,), (None,), (("b",),), (["b"],), "b", "bc", ["b"], {"b": 1}, None, 0):
            steps = (("a", (("x", 1),), following),) + rest
            self.assert_raises_just(BadProgram, steps, Program, steps)
            steps = rest[:1] + (("a", (("x", 1),), ()), ("c", (), following))
            self.assert_raises_just(BadProgram, steps, Program, steps)

    def test_happenings_ascend_and_have_different_kinds(self):
        for happenings in ((("x", 1), ("x", 1)), (("x", 1), ("x", 2)), (("y", 1), ("x", 1)), (("y", 1), ("x", 2)),
                           (("x", 1), ("z", 1), ("y", 1)), (("x", 1), ("y", 1), ("y", 5)), ("x", 1), (("x",),), ((),),
                           (("x", 1, 1),), (("x", 1), "y"), (["x", 1],), [("x", 1)], {"x": 1}, "x", None,
                           (("x", 1), None)):
            steps = (("a", happenings, ()),)
            self.assert_raises_just(BadProgram, steps, Program, steps)

    def test_happenings_ascend_by_kind_whatever_their_numbers(self):
        program = Program((("a", (("x", 5), ("y", 1), ("z", 3)), ()),))
        self.assertEqual([program.many("a", kind) for kind in program.kinds], [5, 1, 3])

    def test_steps_have_different_names(self):
        for steps in ((("a", (), ()), ("a", (), ())), (("a", (), ()), ("a", (("x", 1),), ("a",))),
                      (("a", (), ()), ("b", (), ()), ("a", (), ("b",)))):
            self.assert_raises_just(BadProgram, steps, Program, steps)

    def test_steps_have_three_parts(self):
        for steps in ((), (("a", ()),), (("a", (), (), ()),), (("a",),), ((),), ("a", (), ()), ("abc",),
                      (["a", (), ()],), [("a", (), ())], (("a", (), ()), ("b", ())), (("a", (), ()), None)):
            self.assert_raises_just(BadProgram, steps, Program, steps)


class TestEquality(FitTest):
    def test_equal_if_the_steps_are(self):
        for one in RIGHT.values():
            for other in RIGHT.values():
                copied = eval(repr(other))
                self.assertIs(Program(one) == Program(copied), one == other)
                self.assertIs(Program(one) != Program(copied), one != other)

    def test_the_order_of_the_steps_counts_and_so_does_each_part(self):
        program = Program(DIAMOND)
        for steps in twists(DIAMOND):
            if is_program(steps):
                self.assertIs(program == Program(steps), is_like(steps, DIAMOND))
        self.assertFalse(program == Program(DIAMOND[:1] + DIAMOND[2:0:-1] + DIAMOND[3:]))

    def test_equal_to_nothing_else(self):
        class Alike:
            steps, names, kinds = DIAMOND, ("a", "b", "c", "d"), ("x", "y")

        program = Program(DIAMOND)
        for other in ANY_VALUES + [DIAMOND, list(DIAMOND), program.names, Program, Alike()]:
            self.assertIs(program == other, False)
            self.assertIs(other == program, False)
            self.assertIs(program != other, True)


class TestSteps(FitTest):
    def test_in(self):
        for steps in RIGHT.values():
            program = Program(steps)
            names = [step[0] for step in steps]
            for value in ANY_VALUES + names + [steps, steps[0], steps[0][0] + "a"]:
                self.assertIs(value in program, type(value) is str and value in names)

    def test_following(self):
        for steps in RIGHT.values():
            program = Program(steps)
            for name, _, following in steps:
                self.assert_like(program.following(name), following)

    def test_following_of_no_step(self):
        for steps in (DIAMOND, LOOPS, ALONE):
            program = Program(steps)
            for value in ANY_VALUES + [steps, steps[0], program.kinds]:
                if type(value) is not str or value not in program.names:
                    self.assert_raises_just(NoStep, value, program.following, value)

    def test_many(self):
        for steps in RIGHT.values():
            program = Program(steps)
            for name, happenings, _ in steps:
                for kind in program.kinds:
                    self.assert_like(program.many(name, kind), dict(happenings).get(kind, 0))

    def test_many_of_a_step_that_has_not_this_kind(self):
        program = Program(LOOPS)
        self.assert_like([program.many("z", kind) for kind in ("a", "m", "q", "z")], [0, 0, 0, 0])
        self.assert_like([program.many(name, "z") for name in program.names], [0, 0, 4, 0, 1])
        self.assert_like([program.many(name, "q") for name in program.names], [0, 0, 0, 2, 0])

    def test_many_of_no_step(self):
        program = Program(LOOPS)
        for value in ANY_VALUES + ["q", LOOPS[0]]:
            if type(value) is not str or value not in program.names:
                self.assert_raises_just(NoStep, value, program.many, value, "z")

    def test_many_of_no_kind(self):
        for steps in (DIAMOND, LOOPS, ALONE, RING):
            program = Program(steps)
            for name in program.names:
                for value in ANY_VALUES + list(program.names) + [steps[0][1], program.kinds]:
                    if type(value) is not str or value not in program.kinds:
                        self.assert_raises_just(NoKind, value, program.many, name, value)

    def test_no_step_comes_ahead_of_no_kind(self):
        program = Program(DIAMOND)
        for name in ("e", "x", None, ["a"], {}, 1):
            for kind in ("z", "a", None, ["x"], {}, 1):
                self.assert_raises_just(NoStep, name, program.many, name, kind)


class TestIsRun(FitTest):
    def assert_judged(self, steps, value):
        program, before = Program(steps), repr(value)
        self.assertIs(program.is_run(value), is_run(steps, value), (steps, value))
        self.assertIs(program.is_whole(value), is_whole(steps, value), (steps, value))
        self.assertEqual(repr(value), before)

    def test_some_runs(self):
        program = Program(DIAMOND)
        runs = (("a",), ("a", "b"), ("a", "c"), ("a", "b", "d"), ("a", "c", "d"))
        self.assertEqual([program.is_run(run) for run in runs], [True] * 5)
        self.assertEqual([program.is_whole(run) for run in runs], [False, False, False, True, True])
        self.assertIs(Program(ALONE).is_whole(("only",)), True)
        self.assertIs(Program(STAYS).is_whole(("on", "on")), False)

    def test_all_tuples_of_names(self):
        for steps in (DIAMOND, LOOPS, RING, ALONE, STAYS, ENDS, FULL):
            names = [step[0] for step in steps]
            for length in range(5):
                for value in itertools.product(names, repeat=length):
                    self.assert_judged(steps, value)

    def test_any_value(self):
        for steps in (DIAMOND, LOOPS, ALONE):
            for value in ANY_VALUES + [steps, steps[0], ((),), (("a", "b"),), ("a", ["b"]), ("a", {}), ("a", None)]:
                self.assert_judged(steps, value)

    def test_runs_with_one_part_otherwise(self):
        for steps, run in ((DIAMOND, ("a", "b", "d")), (LOOPS, ("m", "a", "m", "z", "b")), (RING, ("c", "a", "b"))):
            for value in twists(run):
                self.assert_judged(steps, value)

    def test_long_runs(self):
        self.assertIs(Program(STAYS).is_run(("on",) * 1000), True)
        self.assertIs(Program(STAYS).is_run(("on",) * 1000 + ("off",)), False)
        self.assertIs(Program(ENDS).is_whole(("a",) * 997 + ("b", "c", "d")), True)


class TestRuns(FitTest):
    def test_just_the_runs_of_each_length(self):
        for word, steps in RIGHT.items():
            program = Program(steps)
            for length in range(1, 8 if len(steps) < 5 else 6 if len(steps) < 10 else 4):
                with self.subTest(word, length=length):
                    told = list(program.runs(length))
                    self.assert_like(told, all_runs(steps, length))
                    self.assertEqual(told, sorted(set(told)))
                    self.assertTrue(all(program.is_run(run) and len(run) == length for run in told))

    def test_a_generator(self):
        program = Program(DIAMOND)
        self.assertIsInstance(program.runs(3), types.GeneratorType)
        self.assertIsInstance(program.runs(40), types.GeneratorType)

    def test_the_least_length(self):
        for steps in RIGHT.values():
            self.assert_like(list(Program(steps).runs(1)), [(steps[0][0],)])

    def test_lengths_without_a_run(self):
        for steps, length in ((DIAMOND, 4), (DIAMOND, 40), (ALONE, 2), (ALONE, 40)):
            self.assertEqual(list(Program(steps).runs(length)), [])

    def test_the_greatest_length(self):
        self.assert_like(list(Program(STAYS).runs(40)), [("on",) * 40])
        self.assert_like(list(Program(RING).runs(40)), [("c", "a", "b") * 13 + ("c",)])

    def test_all_of_a_great_length_in_order(self):
        ends = [("a",) * 40, ("a",) * 39 + ("b",), ("a",) * 38 + ("b", "c"), ("a",) * 37 + ("b", "c", "d")]
        self.assert_like(list(Program(ENDS).runs(40)), ends)

    def test_steps_that_come_to_an_end_are_no_hindrance(self):
        steps = (("m", (), ("a", "m", "z")), ("a", (), ("b",)), ("b", (), ()), ("z", (), ()))
        for length in range(3, 41):
            held = ("m",) * (length - 2)
            self.assert_like(list(Program(steps).runs(length)),
                             [held + ("a", "b"), held + ("m", "a"), held + ("m", "m"), held + ("m", "z")])

    def test_the_first_ones_of_very_many(self):
        for length in (39, 40):
            wanted = [("a",) + rest for rest in itertools.islice(itertools.product("abc", repeat=length - 1), 300)]
            self.assert_like(list(itertools.islice(Program(FULL).runs(length), 300)), wanted)

    def test_the_first_ones_where_steps_come_to_an_end(self):
        told = list(itertools.islice(Program(LOOPS).runs(40), 3))
        self.assert_like(told, [("m", "a") * 20, ("m", "a") * 19 + ("m", "m"), ("m", "a") * 19 + ("m", "z")])

    def test_two_at_a_time(self):
        program = Program(FULL)
        one, other = program.runs(5), program.runs(5)
        first = [next(one) for _ in range(10)]
        self.assertEqual([next(other) for _ in range(10)], first)
        self.assertEqual(first + list(one), all_runs(FULL, 5))
        self.assertEqual(first + list(other), all_runs(FULL, 5))
        self.assertEqual(list(program.runs(5)), all_runs(FULL, 5))

    def test_no_length(self):
        for steps in (DIAMOND, STAYS, ALONE):
            program = Program(steps)
            for value in ANY_VALUES + [0, 41, -1, 42, 100, "3", (3,), [3], {3: 3}]:
                if not is_int(value) or value < 1 or value > 40:
                    self.assert_raises_just(BadLength, value, lambda length: next(program.runs(length)), value)

    def test_each_length_from_1_to_40(self):
        program = Program(STAYS)
        for length in range(1, 41):
            self.assertEqual(list(program.runs(length)), [("on",) * length])


class TestCalls(FitTest):
    def use(self, program):
        first = program.names[0]
        told = [program.following(first), program.is_run((first,)), program.is_whole((first,)), first in program]
        told += [program.many(name, kind) for name in program.names for kind in program.kinds]
        return told + list(itertools.islice(program.runs(4), 20))

    def test_equal_calls_return_equal_results_and_change_nothing(self):
        for steps in RIGHT.values():
            program, other = Program(steps), Program(steps)
            before = repr((program.steps, program.names, program.kinds))
            told = self.use(program)
            self.caught(program.following, "no step")
            self.caught(program.many, program.names[0], "no kind")
            self.caught(next, program.runs(0))
            self.assert_like(self.use(program), told)
            self.assert_like(self.use(other), told)
            self.assertEqual(repr((program.steps, program.names, program.kinds)), before)
            self.assertTrue(program == other)

    def test_programs_do_not_share_what_they_hold(self):
        one, other = Program(DIAMOND), Program(RING)
        self.assertEqual([one.following("a"), other.following("a")], [("b", "c"), ("b",)])
        self.assertEqual([one.kinds, other.kinds, "d" in one, "d" in other], [("x", "y"), ("k",), True, False])


if __name__ == "__main__":
    unittest.main()

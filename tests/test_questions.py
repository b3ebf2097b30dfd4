"""Section 5: questions and the worth of runs."""

import inspect
import itertools
import unittest

from fitruns import questions
from fitruns.errors import BadQuestion, BadRange, BadRun
from fitruns.programs import Program
from fitruns.questions import is_question, worth
from tests.support import ANY_VALUES, FitTest, ascends, is_int, is_name, twists

DIAMOND = (
    ("a", (("x", 1),), ("b", "c")),
    ("b", (("x", 2), ("y", 1)), ("d",)),
    ("c", (("y", 3),), ("d",)),
    ("d", (), ()),
)
# Steps and kinds have the same names here, so that one could be taken for the other.
MIXED = (
    ("m", (("a", 5), ("m", 2)), ("a", "m", "z")),
    ("z", (), ("a",)),
    ("a", (("m", 1), ("z", 4)), ("m", "z")),
)
GREAT = 999999999999999999

RIGHT = (
    (),
    (("kind", "x", 2), ("step", "d", -1)),
    (("kind", "x", 1),),
    (("step", "a", 1),),
    (("kind", "a", 7), ("kind", "m", -3), ("kind", "z", 100)),
    (("kind", "m", 10), ("step", "m", 1000)),
    (("step", "a", -5), ("step", "m", 3), ("step", "z", GREAT)),
    (("kind", "none", 4), ("kind", "y", -GREAT), ("step", "lost", 9), ("step", "x", 1)),
    (("kind", "abcdefgh", 1), ("kind", "b", 1), ("step", "a", 1), ("step", "abcdefgh", -1)),
)


def judged_question(value):
    """What the document says of questions, word for word."""
    if type(value) is not tuple:
        return False
    for part in value:
        if type(part) is not tuple or len(part) != 3:
            return False
        if type(part[0]) is not str or part[0] not in ["kind", "step"] or not is_name(part[1]):
            return False
        if not is_int(part[2]) or part[2] == 0:
            return False
    return ascends(value) and len({part[:2] for part in value}) == len(value)


def added_up(steps, question, run, since=0, until=None):
    """The worth as the document tells it, one weight at a time."""
    total = 0
    for place, name in enumerate(run):
        if place < since or (until is not None and place >= until):
            continue
        happenings = [step[1] for step in steps if step[0] == name][0]
        for sort, told, weight in question:
            if sort == "step" and told == name:
                total += weight
            if sort == "kind":
                total += sum(many * weight for kind, many in happenings if kind == told)
    return total


class TestExamples(FitTest):
    def test_the_first_one(self):
        program = Program((('a', (('x', 1),), ('b', 'c')), ('b', (('x', 2), ('y', 1)), ('d',)), ('c', (('y', 3),), ('d',)), ('d', (), ())))
        question = (('kind', 'x', 2), ('step', 'd', -1))
        self.assert_like([worth(program, question, ('a', 'b', 'd')), worth(program, question, ('a', 'b', 'd'), since=1)], [5, 3])

    def test_the_second_one(self):
        program = Program((('a', (('x', 1),), ('b', 'c')), ('b', (('x', 2), ('y', 1)), ('d',)), ('c', (('y', 3),), ('d',)), ('d', (), ())))
        self.assert_raises_just(BadRange, 1, worth, program, (), ('a',), since=2, until=1)


class TestInterface(FitTest):
    def test_the_functions_are_defined_in_their_file(self):
        for function in (questions.is_question, questions.worth):
            self.assertTrue(inspect.isfunction(function))
            self.assertEqual(function.__module__, "fitruns.questions")

    def test_arguments_by_name(self):
        program = Program(DIAMOND)
        self.assertIs(is_question(value=()), True)
        told = worth(until=2, run=("a", "b", "d"), since=1, question=(("kind", "x", 3),), program=program)
        self.assertEqual(told, 6)

    def test_since_and_until_by_name_only(self):
        program = Program(DIAMOND)
        self.assertRaises(TypeError, worth, program, (), ("a",), 0)
        self.assertRaises(TypeError, worth, program, (), ("a",), 0, None)


class TestIsQuestion(FitTest):
    def assert_judged(self, value):
        before = repr(value)
        self.assertIs(is_question(value), judged_question(value), value)
        self.assertEqual(repr(value), before)

    def test_right_ones(self):
        for question in RIGHT:
            self.assertIs(is_question(question), True)

    def test_any_value(self):
        for value in ANY_VALUES:
            self.assert_judged(value)
            self.assert_judged((value,))

    def test_right_ones_with_one_part_otherwise(self):
        verdicts = []
        for question in RIGHT:
            for value in twists(question):
                self.assert_judged(value)
                verdicts.append(judged_question(value))
        self.assertGreater(verdicts.count(True), 200)
        self.assertGreater(verdicts.count(False), 1000)

    def test_the_sort(self):
        for sort in ("kind", "step"):
            self.assertIs(is_question(((sort, "a", 1),)), True)
        for sort in ("", "kinds", "Kind", "steps", "turn", "k", "kin", "a", None, 0, True, ("kind",), ["kind"], {}):
            self.assertIs(is_question(((sort, "a", 1),)), False)

    def test_the_name(self):
        for name in ("a", "z", "abcdefgh", "zzzzzzzz", "kind", "step"):
            self.assertIs(is_question((("kind", name, 1),)), True)
            self.assertIs(is_question((("step", name, 1),)), True)
        for name in ("", "abcdefghi", "A", "a1", "a ", "a\n", "\u00e9", None, 1, True, ("a",), ["a"], {}):
            self.assertIs(is_question((("kind", name, 1),)), False)
            self.assertIs(is_question((("step", name, 1),)), False)

    def test_the_weight(self):
        for weight in (1, -1, 2, -2, 999, GREAT, -GREAT):
            self.assertIs(is_question((("kind", "a", weight),)), True)
            self.assertIs(is_question((("step", "a", weight),)), True)
        for weight in (0, True, False, None, "1", "", (1,), [1], {}):
            self.assertIs(is_question((("kind", "a", weight),)), False)
            self.assertIs(is_question((("step", "a", weight),)), False)

    def test_ascending(self):
        self.assertIs(is_question((("kind", "a", 9), ("kind", "b", -9), ("step", "a", 5), ("step", "b", 1))), True)
        self.assertIs(is_question((("kind", "z", 1), ("step", "a", 1))), True)
        for question in ((("step", "a", 1), ("kind", "b", 1)), (("kind", "b", 1), ("kind", "a", 2)),
                         (("step", "b", 1), ("step", "a", 2)), (("kind", "ab", 1), ("kind", "a", 1)),
                         (("kind", "a", 1), ("step", "c", 1), ("step", "b", 1))):
            self.assertIs(is_question(question), False)

    def test_no_sort_and_name_twice(self):
        for question in ((("kind", "a", 1), ("kind", "a", 1)), (("kind", "a", 1), ("kind", "a", 2)),
                         (("step", "a", -1), ("step", "a", 1)), (("kind", "a", 1), ("step", "b", 1), ("step", "b", 2))):
            self.assertIs(is_question(question), False)
        self.assertIs(is_question((("kind", "a", 1), ("step", "a", 1))), True)

    def test_three_parts(self):
        for question in ((("kind", "a"),), (("kind", "a", 1, 1),), ((),), ("kind", "a", 1), (["kind", "a", 1],),
                         [("kind", "a", 1)], [], {}, "", (None,), (("kind", "a", 1), ("step", "a"))):
            self.assertIs(is_question(question), False)


class TestWorth(FitTest):
    def test_all_short_runs_and_ranges(self):
        for steps in (DIAMOND, MIXED):
            program = Program(steps)
            runs = [run for length in range(1, 5) for run in program.runs(length)]
            for question, run in itertools.product(RIGHT, runs):
                self.assert_like(worth(program, question, run), added_up(steps, question, run))
                for since in range(7):
                    for until in [None] + list(range(since, 8)):
                        told = worth(program, question, run, since=since, until=until)
                        wanted = added_up(steps, question, run, since, until)
                        self.assert_like(told, wanted, (question, run, since, until))

    def test_happenings_count_many_times(self):
        program = Program((("a", (("x", 5), ("y", 1)), ("a",)),))
        self.assertEqual(worth(program, (("kind", "x", 7),), ("a",)), 35)
        self.assertEqual(worth(program, (("kind", "x", 7), ("kind", "y", -2)), ("a", "a")), 66)
        self.assertEqual(worth(program, (("kind", "x", -7), ("step", "a", 100)), ("a", "a", "a")), 195)

    def test_steps_and_kinds_of_the_same_name(self):
        program = Program(MIXED)
        run = ("m", "a", "m", "z")
        self.assertEqual(worth(program, (("kind", "m", 1),), run), 5)
        self.assertEqual(worth(program, (("step", "m", 1),), run), 2)
        self.assertEqual(worth(program, (("kind", "m", 1), ("step", "m", 100)), run), 205)
        self.assertEqual(worth(program, (("kind", "a", 1), ("step", "a", 100)), run), 110)
        self.assertEqual(worth(program, (("kind", "z", 1), ("step", "z", 100)), run), 104)

    def test_names_that_the_program_has_not_count_nothing(self):
        program = Program(DIAMOND)
        question = (("kind", "a", 5), ("kind", "q", 7), ("step", "q", 9), ("step", "x", 11))
        self.assert_like(worth(program, question, ("a", "b", "d")), 0)
        self.assertEqual(worth(program, question + (("step", "y", 1),), ("a", "c", "d")), 0)

    def test_nothing_asked_is_worth_nothing(self):
        self.assert_like(worth(Program(DIAMOND), (), ("a", "b", "d")), 0)

    def test_ranges(self):
        program = Program((("a", (), ("a",)),))
        question, run = (("step", "a", 1),), ("a",) * 5
        for since, until, many in ((0, None, 5), (0, 0, 0), (0, 5, 5), (0, 6, 5), (0, GREAT, 5), (1, None, 4),
                                   (4, None, 1), (5, None, 0), (6, None, 0), (GREAT, None, 0), (2, 2, 0), (2, 3, 1),
                                   (4, 5, 1), (4, 99, 1), (5, 5, 0), (7, 9, 0), (GREAT, GREAT, 0)):
            self.assert_like(worth(program, question, run, since=since, until=until), many, (since, until))
        told = [worth(program, question, run, until=until) for until in (0, 1, 4, 5, 9, None)]
        self.assertEqual(told, [0, 1, 4, 5, 5, 5])

    def test_great_weights_and_long_runs(self):
        program = Program((("a", (("x", 5),), ("a",)),))
        self.assertEqual(worth(program, (("kind", "x", GREAT),), ("a",) * 40), 200 * GREAT)
        self.assertEqual(worth(program, (("kind", "x", -GREAT), ("step", "a", 5)), ("a",) * 40), 200 - 200 * GREAT)
        self.assertEqual(worth(program, (("step", "a", 3),), ("a",) * 1000, since=10, until=990), 2940)

    def test_runs_need_not_be_whole(self):
        program = Program(DIAMOND)
        question = (("kind", "x", 1), ("step", "a", 10))
        self.assertEqual([worth(program, question, run) for run in (("a",), ("a", "b"), ("a", "b", "d"))], [11, 13, 13])

    def test_equal_calls_return_equal_results_and_change_nothing(self):
        program, question, run = Program(MIXED), RIGHT[5], ("m", "a", "m")
        before = repr((program.steps, program.names, program.kinds, question, run))
        self.assertEqual([worth(program, question, run, since=1) for _ in range(3)], [1030] * 3)
        self.caught(worth, program, question, run, since=-1)
        self.assertEqual(worth(Program(MIXED), question, run, since=1), 1030)
        self.assertEqual(repr((program.steps, program.names, program.kinds, question, run)), before)


class TestErrors(FitTest):
    def test_no_question(self):
        program = Program(DIAMOND)
        for value in ANY_VALUES:
            if not judged_question(value):
                self.assert_raises_just(BadQuestion, value, worth, program, value, ("a",))
        for question in RIGHT[1:4]:
            for value in twists(question):
                if not judged_question(value):
                    self.assert_raises_just(BadQuestion, value, worth, program, value, ("a", "b"))

    def test_no_run(self):
        program = Program(DIAMOND)
        for value in ANY_VALUES + list(twists(("a", "b", "d"))):
            if value not in (("a",), ("a", "b"), ("a", "c"), ("a", "b", "d"), ("a", "c", "d")):
                self.assert_raises_just(BadRun, value, worth, program, (("kind", "x", 1),), value)

    def test_no_place_to_begin(self):
        program = Program(DIAMOND)
        for value in ANY_VALUES + [-1, "0", (0,), [0], {0: 0}]:
            if not is_int(value) or value < 0:
                for until in (None, 0, 3):
                    self.assert_raises_just(BadRange, value, worth, program, (), ("a",), since=value, until=until)
                self.assert_raises_just(BadRange, value, worth, program, (), ("a",), since=value)

    def test_no_place_to_end(self):
        program = Program(DIAMOND)
        for since in (0, 1, 2, 5):
            for value in ANY_VALUES + [since - 1, "5", (5,), [5], {5: 5}]:
                if value is not None and (not is_int(value) or value < since):
                    self.assert_raises_just(BadRange, value, worth, program, (), ("a", "b"), since=since, until=value)
        for value in (-1, True, False, "", [], ()):
            self.assert_raises_just(BadRange, value, worth, program, (), ("a", "b"), until=value)

    def test_the_first_one_that_applies(self):
        program = Program(DIAMOND)
        question, run, since, until = [("kind", "x", 1)], ["a"], -7, "end"
        self.assert_raises_just(BadQuestion, question, worth, program, question, run, since=since, until=until)
        self.assert_raises_just(BadQuestion, question, worth, program, question, ("a",), since=since, until=until)
        self.assert_raises_just(BadQuestion, question, worth, program, question, run)
        self.assert_raises_just(BadQuestion, question, worth, program, question, ("a",), until=until)
        self.assert_raises_just(BadRun, run, worth, program, (), run, since=since, until=until)
        self.assert_raises_just(BadRun, run, worth, program, (), run, since=since)
        self.assert_raises_just(BadRun, run, worth, program, (), run, until=until)
        self.assert_raises_just(BadRange, since, worth, program, (), ("a",), since=since, until=until)
        self.assert_raises_just(BadRange, since, worth, program, (), ("a",), since=since, until=-9)
        self.assert_raises_just(BadRange, until, worth, program, (), ("a",), since=8, until=until)

    def test_names_that_the_program_has_not_are_no_error(self):
        self.assertEqual(worth(Program(DIAMOND), (("kind", "none", 1), ("step", "none", 1)), ("a",)), 0)

    def test_a_run_of_another_program_is_none(self):
        run = ("m", "a")
        self.assert_raises_just(BadRun, run, worth, Program(DIAMOND), (), run)
        self.assertEqual(worth(Program(MIXED), (), run), 0)


if __name__ == "__main__":
    unittest.main()

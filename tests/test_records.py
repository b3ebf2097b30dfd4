"""Section 7: plans, records and sheets."""

import inspect
import itertools
import random
import unittest

from fitruns import records as module
from fitruns.errors import BadCounters, BadPlan, BadRun, BadSheet
from fitruns.programs import Program
from fitruns.records import alike, fits, recorded
from tests import plain
from tests.samples import COUNTERS, DIAMOND, FULL, PROGRAMS, ROUNDS, STAYS, TICK, TWO, some_plan, some_sheets
from tests.support import ANY_VALUES, FitTest, twists

PLAN = ((2, ("x", None)), (1, (None, "y")))
SHEET = ((((2, ("x", None), (3, None)), (1, (None, "y"), (None, 0))), ((3, ("y", "y"), (1, 1)),)), True)
RUN = ("a", "b", "d")
ON = ("on",)
GREAT = 999999999999999999


def sample_plans(counters):
    draw = random.Random(repr(counters))
    return [some_plan(draw, counters) for _ in range(12)]


class TestExamples(FitTest):
    def test_the_example(self):
        program = Program((('a', (('x', 1),), ('b', 'c')), ('b', (('x', 2), ('y', 1)), ('d',)), ('c', (('y', 3),), ('d',)), ('d', (), ())))
        counters = ((('x', 'y'), None), (('y',), 4))
        plan = ((2, ('x', None)), (1, (None, 'y')))
        self.assert_like(
            [recorded(program, counters, plan, ('a', 'b', 'd')), alike(program, counters, plan, ('a', 'b', 'd'), ('a', 'c', 'd'))],
            [((2, ('x', None), (3, None)), (1, (None, 'y'), (None, 0))), False])


class TestInterface(FitTest):
    def test_the_functions_are_defined_in_their_file(self):
        for function in (module.recorded, module.fits, module.alike):
            self.assertTrue(inspect.isfunction(function))
            self.assertEqual(function.__module__, "fitruns.records")

    def test_arguments_by_name(self):
        program = Program(DIAMOND)
        told = recorded(run=RUN, plan=PLAN, counters=TWO, program=program)
        self.assert_like(told, ((2, ("x", None), (3, None)), (1, (None, "y"), (None, 0))))
        self.assertIs(fits(run=RUN, sheet=SHEET, counters=TWO, program=program), True)
        self.assertIs(alike(other=("a", "c"), one=("a", "b"), plan=((2, ("y", "y")),), counters=TWO, program=program), False)
        self.assert_raises_just(BadRun, ("c",), alike, program, TWO, PLAN, other=("c",), one=("a",))


class TestRecorded(FitTest):
    def test_all_short_runs(self):
        for steps, counters in itertools.product(PROGRAMS, COUNTERS):
            program = Program(steps)
            for plan in sample_plans(counters):
                for length in range(1, 6):
                    for run in plain.runs_of(steps, length):
                        before = repr((counters, plan, run))
                        told = recorded(program, counters, plan, run)
                        self.assert_like(told, plain.record_of(steps, counters, plan, run), (steps, counters, plan, run))
                        self.assertEqual(repr((counters, plan, run)), before)

    def test_plans_that_come_round(self):
        program = Program(STAYS)
        plan = ((2, ("tick",)), (3, (None,)))
        self.assert_like(recorded(program, TICK, plan, ON * 12),
                         ((2, ("tick",), (2,)), (3, (None,), (None,)), (2, ("tick",), (2,)), (3, (None,), (None,)),
                          (2, ("tick",), (2,))))

    def test_a_last_turn_that_is_cut_short(self):
        program = Program(STAYS)
        plan = ((3, ("tick",)), (8, (None,)))
        cut = [recorded(program, TICK, plan, ON * length) for length in (1, 2, 3, 4, 11, 12)]
        self.assert_like(cut, [
            ((1, ("tick",), (1,)),), ((2, ("tick",), (2,)),), ((3, ("tick",), (3,)),),
            ((3, ("tick",), (3,)), (1, (None,), (None,))), ((3, ("tick",), (3,)), (8, (None,), (None,))),
            ((3, ("tick",), (3,)), (8, (None,), (None,)), (1, ("tick",), (1,)))])

    def test_lengths_of_turns(self):
        program = Program(STAYS)
        for length in range(1, 9):
            turns = tuple((length, ("tick",), (length,)) for _ in range(3))
            self.assert_like(recorded(program, TICK, ((length, ("tick",)),), ON * (3 * length)), turns)

    def test_how_many_turns(self):
        program = Program(STAYS)
        for many in range(1, 5):
            plan = tuple((length, ("tick",)) for length in range(1, many + 1))
            told = recorded(program, TICK, plan, ON * 40)
            self.assert_like(told, plain.record_of(STAYS, TICK, plan, ON * 40))
            self.assertEqual([turn[0] for turn in told[:many + 1]], list(range(1, many + 1)) + [1])

    def test_counts_modulo_the_size(self):
        program = Program(STAYS)
        for size in (2, 3, 4, 5, 7, 8, 9, 999):
            counters = ((("tick",), size), (("tick",), None))
            for length in range(1, 9):
                told = recorded(program, counters, ((length, ("tick", "tick")),), ON * length)
                self.assert_like(told, ((length, ("tick", "tick"), (length % size, length)),))

    def test_two_counters_on_one_kind_and_kinds_that_no_step_has(self):
        program = Program(DIAMOND)
        counters = ((("q", "x"), None), (("q", "x"), 2), (("q", "y"), None))
        self.assert_like(recorded(program, counters, ((3, ("x", "x", "q")),), RUN), ((3, ("x", "x", "q"), (3, 1, 0)),))
        self.assert_like(recorded(program, counters, ((1, ("q", "q", "y")),), RUN),
                         ((1, ("q", "q", "y"), (0, 0, 0)), (1, ("q", "q", "y"), (0, 0, 1)), (1, ("q", "q", "y"), (0, 0, 0))))

    def test_long_runs(self):
        program = Program(FULL)
        run = ("a",) + ("b", "a", "c") * 33
        plan = ((8, ("x", "y")), (5, ("y", None)))
        self.assert_like(recorded(program, TWO, plan, run), plain.record_of(FULL, TWO, plan, run))


class TestFits(FitTest):
    def test_all_short_runs(self):
        draw = random.Random(7)
        verdicts = []
        for steps, counters, sheet in some_sheets(draw, 210, 5):
            program, before = Program(steps), repr((counters, sheet))
            for length in range(1, 7):
                for run in plain.runs_of(steps, length):
                    wanted = plain.fits(steps, counters, sheet, run)
                    self.assertIs(fits(program, counters, sheet, run), wanted, (steps, counters, sheet, run))
                    verdicts.append(wanted)
            self.assertEqual(repr((counters, sheet)), before)
        self.assertGreater(verdicts.count(True), 200)
        self.assertGreater(verdicts.count(False), 1000)

    def test_what_was_recorded_fits(self):
        for steps, counters in itertools.product(PROGRAMS, COUNTERS):
            program = Program(steps)
            plans = sample_plans(counters)
            for length in (1, 2, 3, 5):
                for run in plain.runs_of(steps, length)[:5]:
                    for one, other in zip(plans, plans[1:]):
                        told = (recorded(program, counters, one, run), recorded(program, counters, other, run))
                        self.assertIs(fits(program, counters, (told, False), run), True)
                        self.assertIs(fits(program, counters, (told[:1], False), run), True)
                        self.assertIs(fits(program, counters, (told, True), run), plain.is_whole(steps, run))

    def test_another_length(self):
        program = Program(ROUNDS)
        sheet = ((((3, (None,), (None,)),),), False)
        counters = ((("x",), None),)
        told = [fits(program, counters, sheet, run) for run in
                (("a",), ("a", "b"), ("a", "b", "a"), ("a", "c", "a"), ("a", "b", "a", "b"), ("a", "d"))]
        self.assertEqual(told, [False, False, True, True, False, False])

    def test_ended_or_not(self):
        program = Program(ROUNDS)
        counters = ((("x",), None),)
        record = ((2, (None,), (None,)),)
        self.assertIs(fits(program, counters, ((record,), True), ("a", "b")), False)
        self.assertIs(fits(program, counters, ((record,), True), ("a", "d")), True)
        self.assertIs(fits(program, counters, ((record,), False), ("a", "b")), True)
        self.assertIs(fits(program, counters, ((record,), False), ("a", "d")), True)

    def test_each_turn_of_each_record(self):
        program = Program(DIAMOND)
        right = ((2, ("x", None), (3, None)), (1, (None, "y"), (None, 0)))
        other = ((1, ("x", "y"), (1, 0)), (2, ("x", "y"), (2, 1)))
        self.assertIs(fits(program, TWO, ((right, other), True), RUN), True)
        for counts in ((4, None), (2, None), (0, None), (GREAT, None)):
            wrong = ((2, ("x", None), counts),) + right[1:]
            for records in ((wrong,), (wrong, other), (other, wrong)):
                self.assertIs(fits(program, TWO, (records, True), RUN), False)
        wrong = right[:1] + ((1, (None, "y"), (None, 1)),)
        for records in ((wrong,), (wrong, other), (other, wrong)):
            self.assertIs(fits(program, TWO, (records, True), RUN), False)

    def test_a_turn_may_be_shorter_anywhere(self):
        program = Program(STAYS)
        record = ((1, ("tick",), (1,)), (8, ("tick",), (8,)), (2, (None,), (None,)), (1, ("tick",), (1,)))
        self.assertIs(fits(program, TICK, ((record,), False), ON * 12), True)
        self.assertIs(fits(program, TICK, ((record[::-1],), False), ON * 12), True)
        self.assertIs(fits(program, TICK, ((record,), True), ON * 12), False)

    def test_counts_below_the_size(self):
        program = Program(STAYS)
        for size in (2, 3, 8, 999):
            counters = ((("tick",), size),)
            for count in (0, 1, size - 1):
                sheet = ((((8, ("tick",), (count,)),),), False)
                self.assertIs(fits(program, counters, sheet, ON * 8), count == 8 % size)

    def test_sheets_of_40_ticks(self):
        program = Program(STAYS)
        record = tuple((8, ("tick",), (8,)) for _ in range(5))
        self.assertIs(fits(program, TICK, ((record, record), False), ON * 40), True)
        self.assertIs(fits(program, TICK, ((record, record), False), ON * 39), False)


class TestAlike(FitTest):
    def test_all_pairs_of_short_runs(self):
        verdicts = []
        for steps, counters in itertools.product(PROGRAMS[:4], COUNTERS):
            program = Program(steps)
            runs = [run for length in range(1, 5) for run in plain.runs_of(steps, length)][-25:]
            for plan in sample_plans(counters)[:5]:
                records = [plain.record_of(steps, counters, plan, run) for run in runs]
                for (one, first), (other, second) in itertools.product(zip(runs, records), repeat=2):
                    self.assertIs(alike(program, counters, plan, one, other), first == second)
                    verdicts.append(first == second)
        self.assertGreater(verdicts.count(True), 1000)
        self.assertGreater(verdicts.count(False), 1000)

    def test_one_way_and_the_other(self):
        program, counters = Program(DIAMOND), ((("x", "y"), None),)
        one, other = ("a", "b", "d"), ("a", "c", "d")
        told = [alike(program, counters, ((3, (kind,)),), one, other) for kind in (None, "x", "y")]
        self.assertEqual(told, [True, False, False])
        self.assertIs(alike(program, ((("y",), 2),), ((3, ("y",)),), one, other), True)
        self.assertIs(alike(program, ((("y",), 3),), ((3, ("y",)),), one, other), False)

    def test_runs_of_other_lengths(self):
        program = Program(STAYS)
        for one, other in itertools.product(range(1, 12), repeat=2):
            for plan in (((8, (None,)),), ((2, (None,)), (1, ("tick",)))):
                self.assertIs(alike(program, TICK, plan, ON * one, ON * other), one == other)


class TestErrors(FitTest):
    def calls(self, program):
        return ((recorded, (TWO, PLAN, RUN)), (fits, (TWO, SHEET, RUN)), (alike, (TWO, PLAN, RUN, ("a", "c", "d"))))

    def assert_raised(self, error, place, values, steps=DIAMOND, functions=(recorded, fits, alike)):
        program = Program(steps)
        for function, args in self.calls(program):
            if function in functions:
                for value in values:
                    self.assert_raises_just(error, value, function, program, *args[:place], value, *args[place + 1:])

    def test_no_counters(self):
        values = [value for value in ANY_VALUES + list(twists(TWO)) if not plain.is_counters(value)]
        self.assert_raised(BadCounters, 0, values)

    def test_no_plan(self):
        values = [value for value in ANY_VALUES + list(twists(PLAN)) if not plain.is_plan(TWO, value)]
        self.assertGreater(len(values), 1000)
        self.assert_raised(BadPlan, 1, values, functions=(recorded, alike))

    def test_plans_with_one_part_otherwise_that_are_right(self):
        program = Program(DIAMOND)
        right = [value for value in twists(PLAN) if plain.is_plan(TWO, value)]
        self.assertGreater(len(right), 20)
        for value in right:
            self.assert_like(recorded(program, TWO, value, RUN), plain.record_of(DIAMOND, TWO, value, RUN))

    def test_the_edges_of_plans(self):
        turn = (3, ("x", None))
        right = [(turn,) * many for many in range(1, 5)] + [((length, ("x", "y")),) for length in range(1, 9)]
        for value in right:
            self.assertIn(alike(Program(DIAMOND), TWO, value, RUN, RUN), (True,))
        wrong = [(), (turn,) * 5, turn, [turn], ((0, ("x", None)),), ((9, ("x", None)),), ((-1, ("x", None)),),
                 ((True, ("x", None)),), (("1", ("x", None)),), ((None, ("x", None)),), ((1, ("x",)),),
                 ((1, ("x", None, None)),), ((1, ("y", "x")),), ((1, ("z", None)),), ((1, ["x", None]),), ((1, "xy"),),
                 ((1, None),), ((1,),), ((1, ("x", None), (0, None)),), ([1, ("x", None)],), (turn, None), (turn, ()),
                 (turn, turn, (9, ("x", None)))]
        self.assert_raised(BadPlan, 1, wrong, functions=(recorded, alike))

    def test_no_sheet(self):
        values = [value for value in ANY_VALUES + list(twists(SHEET)) if not plain.is_sheet(TWO, value)]
        self.assertGreater(len(values), 2000)
        self.assert_raised(BadSheet, 1, values, functions=(fits,))

    def test_sheets_with_one_part_otherwise_that_are_right(self):
        program = Program(DIAMOND)
        right = [value for value in twists(SHEET) if plain.is_sheet(TWO, value)]
        self.assertGreater(len(right), 50)
        for value in right:
            self.assertIs(fits(program, TWO, value, RUN), plain.fits(DIAMOND, TWO, value, RUN))

    def test_the_edges_of_sheets(self):
        free = (3, (None, None), (None, None))
        one = (1, (None, None), (None, None))
        counters = ((("x", "y"), None), (("y",), 4))
        right = [((free,),), ((free,), (free,)), ((one, one, one), (free,)), ((one,) * 3, (one, one, one)),
                 (((8, (None, None), (None, None)),) * 5,), ((free, (8, ("x", "y"), (0, 0))),),
                 ((free, (1, ("x", "y"), (GREAT, 3))),), ((free, (1, (None, "y"), (None, 3))),)]
        for records in right:
            for ended in (True, False):
                self.assertIn(fits(Program(DIAMOND), counters, (records, ended), ("a",)), (True, False))
        wrong = [((free,), (free,), (free,)), (), ((),), ((free,), ()), ((free,), (one,)), ((free,), (free, one)),
                 ((one, one), (one,)), free, (free,), [(free,)], ([free],), ((list(free),),), None, True]
        for part in ((0, (None, None), (None, None)), (9, (None, None), (None, None)), (True, (None, None), (None, None)),
                     (1, ("x", None), (None, None)), (1, (None, None), (0, None)), (1, (None, None), (None, 0)),
                     (1, ("x", None), (-1, None)), (1, (None, "y"), (None, 4)), (1, (None, "y"), (None, 5)),
                     (1, (None, "y"), (None, -1)), (1, ("x", None), (True, None)), (1, ("x", None), (False, None)),
                     (1, ("x", None), ("0", None)), (1, ("x", None), (0,)), (1, ("x", None), (0, None, None)), (1, ("x",), (0,)),
                     (1, ("z", None), (0, None)), (1, ("x", "x"), (0, 0)), (1, ("x", None), [0, None]), (1, ["x", None], (0, None)),
                     [1, ("x", None), (0, None)], (1, ("x", None)), (1, ("x", None), (0, None), ()), None, (), (1, None, None)):
            wrong += [((part,),), ((free, part),), ((one,), (part,)), ((part,), (one,))]
        sheets = [(records, ended) for records in wrong for ended in (True, False)]
        for ended in (0, 1, None, "", "True", (), [True], 2):
            sheets.append((((free,),), ended))
        sheets += [(((free,),),), (((free,),), True, True), [((free,),), True], (True, ((free,),))]
        self.assert_raised(BadSheet, 1, sheets, functions=(fits,))

    def test_no_run(self):
        for steps in (DIAMOND, ROUNDS):
            values = [value for value in ANY_VALUES + list(twists(RUN)) if not plain.is_run(steps, value)]
            self.assert_raised(BadRun, 2, values, steps)
            self.assertGreater(len(values), 200)
        values = [value for value in ANY_VALUES + list(twists(RUN)) if not plain.is_run(DIAMOND, value)]
        self.assert_raised(BadRun, 3, values, functions=(alike,))

    def test_the_first_one_that_applies(self):
        program = Program(DIAMOND)
        counters, plan, sheet, run, other = [TWO], [PLAN], [SHEET], ["a"], "a"
        for rest in itertools.product((PLAN, plan), (RUN, run), (RUN, other)):
            self.assert_raises_just(BadCounters, counters, alike, program, counters, *rest)
        for rest in itertools.product((PLAN, plan), (RUN, run)):
            self.assert_raises_just(BadCounters, counters, recorded, program, counters, *rest)
        for rest in itertools.product((SHEET, sheet), (RUN, run)):
            self.assert_raises_just(BadCounters, counters, fits, program, counters, *rest)
        for rest in itertools.product((RUN, run), (RUN, other)):
            self.assert_raises_just(BadPlan, plan, alike, program, TWO, plan, *rest)
        for one in (RUN, run):
            self.assert_raises_just(BadPlan, plan, recorded, program, TWO, plan, one)
            self.assert_raises_just(BadSheet, sheet, fits, program, TWO, sheet, one)
        self.assert_raises_just(BadRun, run, alike, program, TWO, PLAN, run, other)
        self.assert_raises_just(BadRun, run, alike, program, TWO, PLAN, run, RUN)
        self.assert_raises_just(BadRun, other, alike, program, TWO, PLAN, RUN, other)


class TestCalls(FitTest):
    def test_equal_calls_return_equal_results(self):
        program = Program(DIAMOND)
        for _ in range(3):
            self.assert_like(recorded(program, TWO, PLAN, RUN), plain.record_of(DIAMOND, TWO, PLAN, RUN))
            self.assertIs(fits(program, TWO, SHEET, RUN), True)
            self.assertIs(alike(program, TWO, PLAN, RUN, RUN), True)
            self.caught(recorded, program, TWO, PLAN, ("b",))
            self.caught(fits, program, TWO, None, RUN)
        self.assertEqual([program.steps, program.names, program.kinds], [DIAMOND, ("a", "b", "c", "d"), ("x", "y")])


if __name__ == "__main__":
    unittest.main()

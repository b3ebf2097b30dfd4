"""Section 10: which readings are the fewest that must be wrong."""

import inspect
import itertools
import random
import unittest

from fitruns import doubts as module
from fitruns.doubts import doubts, shows_doubts
from fitruns.errors import BadCounters, BadSheet
from fitruns.fitting import fitting
from fitruns.programs import Program
from tests import plain, plain_plans
from tests.samples import (
    ALONE, COUNTERS, DIAMOND, FIVE, FREE, FULL, NONE, PROGRAMS, ROUNDS, SOLE, STAYS, TICK, TWO, free_sheet, some_plan, with_other_count,
)
from tests.support import ANY_VALUES, FitTest, twists

BOTH = ((((3, ("x", "y"), (5, 1)),),), True)
GREAT = 999999999999999999


def doubtful_sheets(draw, many, longest=5):
    """Yield (steps, counters, sheet): sheets of one or two records of a run with none to four counts put otherwise."""
    for number in range(many):
        steps = PROGRAMS[number % len(PROGRAMS)]
        counters = draw.choice(COUNTERS)
        lengths = [length for length in range(1, longest + 1) if plain.runs_of(steps, length)]
        run = draw.choice(plain.runs_of(steps, draw.choice(lengths + lengths[-2:] * 2)))
        records = [plain.record_of(steps, counters, some_plan(draw, counters), run) for _ in range(draw.choice((1, 1, 2)))]
        for _ in range(draw.choice((0, 1, 1, 2, 3, 4))):
            at = draw.randrange(len(records))
            records[at] = with_other_count(draw, counters, records[at])
        yield steps, counters, (tuple(records), draw.random() < (0.6 if plain.is_whole(steps, run) else 0.2))


class TestExamples(FitTest):
    def test_the_example(self):
        program = Program((('a', (('x', 1),), ('b', 'c')), ('b', (('x', 2), ('y', 1)), ('d',)), ('c', (('y', 3),), ('d',)), ('d', (), ())))
        counters = ((('x', 'y'), None), (('y',), 4))
        sheet = ((((3, ('x', 'y'), (5, 1)),),), True)
        self.assert_like(doubts(program, counters, sheet)[:2], (((0, 0, 0),), ('a', 'b', 'd')))


class TestInterface(FitTest):
    def test_the_functions_are_defined_in_their_file(self):
        for name in ("doubts", "shows_doubts"):
            function = getattr(module, name)
            self.assertTrue(inspect.isfunction(function))
            self.assertEqual(function.__module__, "fitruns.doubts")

    def test_arguments_by_name(self):
        named = {"sheet": BOTH, "counters": TWO, "program": Program(DIAMOND)}
        told = doubts(**named)
        self.assert_like(told, doubts(Program(DIAMOND), TWO, BOTH))
        self.assertIs(shows_doubts(value=told, **named), True)
        self.assertIs(shows_doubts(value=None, **named), False)


class TestAgainstAListing(FitTest):
    """No fewer readings than those of doubts can be wrong."""

    def setUp(self):
        self.samples = list(doubtful_sheets(random.Random(10), 420))

    def test_the_samples_are_of_all_sorts(self):
        told = [plain_plans.doubts(*sample) for sample in self.samples]
        many = [None if pair is None else len(pair[0]) for pair in told]
        self.assertGreater(many.count(None), 20)
        self.assertGreater(many.count(0), 80)
        self.assertGreater(many.count(1), 60)
        self.assertGreater(len([number for number in many if number is not None and number > 1]), 30)
        self.assertGreater(len([pair for pair in told if pair and any(reading[0] == 1 for reading in pair[0])]), 15)

    def test_the_fewest_readings_and_the_least_run(self):
        for steps, counters, sheet in self.samples:
            wanted = plain_plans.doubts(steps, counters, sheet)
            told = doubts(Program(steps), counters, sheet)
            if wanted is None:
                self.assertIsNone(told, (steps, counters, sheet))
                continue
            self.assertEqual((type(told), len(told)), (tuple, 3))
            self.assert_like(told[:2], wanted, (steps, counters, sheet))
            self.assertTrue(plain_plans.shows_doubts(steps, counters, sheet, told), (steps, counters, sheet, told))
            self.assertIs(shows_doubts(Program(steps), counters, sheet, told), True)

    def test_without_the_doubted_counters_the_sheet_fits(self):
        for steps, counters, sheet in self.samples:
            program, told = Program(steps), doubts(Program(steps), counters, sheet)
            if told is None:
                self.assertIsNone(fitting(program, counters, sheet))
                continue
            records = [[list(part) if type(part) is tuple else part for part in turn] for record in sheet[0] for turn in record]
            numbers = [(number, turn) for number, record in enumerate(sheet[0]) for turn in range(len(record))]
            for record, turn, counter in told[0]:
                heard = records[numbers.index((record, turn))]
                self.assertIsNotNone(heard[1][counter])
                heard[1][counter] = heard[2][counter] = None
            turns = [(length, tuple(setting), tuple(counts)) for length, setting, counts in records]
            first = len(sheet[0][0])
            parts = (tuple(turns[:first]), tuple(turns[first:]))[:len(sheet[0])]
            self.assertIsNotNone(fitting(program, counters, (parts, sheet[1])))
            self.assertEqual(told[0] == (), fitting(program, counters, sheet) is not None)

    def test_no_run_of_this_length(self):
        for steps, counters, sheet in ((DIAMOND, TWO, ((((4, ("x", None), (3, None)),),), False)), (ALONE, NONE, free_sheet(2)),
                                       (DIAMOND, TWO, ((((2, ("x", None), (3, None)),),), True)), (FULL, NONE, free_sheet(40, ended=True)),
                                       (STAYS, TICK, free_sheet(7, records=2, ended=True))):
            self.assertIsNone(doubts(Program(steps), counters, sheet))
            for value in ANY_VALUES + [((), (), ()), ((), ("a", "b"), ()), ((), ("a",) * 40, ()), (None, None, None)]:
                self.assertIs(shows_doubts(Program(steps), counters, sheet, value), False)

    def test_of_equally_many_the_least_tuple(self):
        # Each of the two runs misses one reading: the one with the less reading is taken, not the less run.
        sheet = ((((1, (None, None), (None, None)), (2, (None, "y"), (None, 3))), ((2, ("x", None), (3, None)), (1, (None, None), (None, None)))), True)
        told = doubts(Program(DIAMOND), TWO, sheet)
        self.assert_like(told[:2], (((0, 1, 1),), ("a", "b", "d")))
        other = ((sheet[0][1], sheet[0][0]), True)
        told = doubts(Program(DIAMOND), TWO, other)
        self.assert_like(told[:2], (((0, 0, 0),), ("a", "c", "d")))

    def test_nothing_that_was_passed_is_changed(self):
        for steps, counters, sheet in self.samples[:60]:
            program, before = Program(steps), repr((counters, sheet))
            told = doubts(program, counters, sheet)
            self.assert_like(doubts(program, counters, sheet), told)
            self.assert_like(doubts(Program(steps), counters, sheet), told)
            kept = repr(told)
            shows_doubts(program, counters, sheet, told)
            self.assertEqual(repr(told), kept)
            self.assertEqual(repr((counters, sheet)), before)


class TestShowing(FitTest):
    def assert_judged(self, steps, counters, sheet, value):
        before = repr(value)
        wanted = plain_plans.shows_doubts(steps, counters, sheet, value)
        self.assertIs(shows_doubts(Program(steps), counters, sheet, value), wanted, (steps, counters, sheet, value))
        self.assertEqual(repr(value), before)
        return wanted

    def test_any_value(self):
        told = doubts(Program(DIAMOND), TWO, BOTH)
        for value in ANY_VALUES:
            self.assertFalse(self.assert_judged(DIAMOND, TWO, BOTH, value))
            for place in range(3):
                self.assert_judged(DIAMOND, TWO, BOTH, told[:place] + (value,) + told[place + 1:])

    def test_with_one_part_otherwise(self):
        verdicts = []
        for sheet in (BOTH, SOLE, FREE, FIVE):
            told = doubts(Program(DIAMOND), TWO, sheet)
            verdicts.extend(self.assert_judged(DIAMOND, TWO, sheet, value) for value in twists(told, ANY_VALUES[::3] + [True, 1]))
        self.assertGreater(verdicts.count(True), 10)
        self.assertGreater(verdicts.count(False), 2000)

    def test_bools_are_no_numbers(self):
        sheet = ((((1, ("x", None), (1, None)), (2, ("x", "y"), (5, 1))),), True)
        told = doubts(Program(DIAMOND), TWO, sheet)
        self.assert_like(told[0], ((0, 1, 0),))
        for readings in (((0, True, 0),), ((False, 1, 0),), ((0, 1, False),), [(0, 1, 0)], ([0, 1, 0],), ((0, 1, 0), (0, 1, 0)), ()):
            self.assertFalse(self.assert_judged(DIAMOND, TWO, sheet, (readings,) + told[1:]))

    def test_more_readings_than_needed(self):
        # The other run misses both readings: heights for two cannot hold.
        told = doubts(Program(DIAMOND), TWO, BOTH)
        self.assertFalse(self.assert_judged(DIAMOND, TWO, BOTH, (((0, 0, 0), (0, 0, 1)), ("a", "c", "d"), told[2])))

    def test_other_runs_with_as_few(self):
        sheet = ((((3, ("x", "y"), (3, 3)),),), True)
        told = doubts(Program(DIAMOND), TWO, sheet)
        self.assert_like(told[:2], (((0, 0, 0),), ("a", "c", "d")))
        self.assertTrue(self.assert_judged(DIAMOND, TWO, sheet, (((0, 0, 1),), ("a", "b", "d"), told[2])))
        self.assertFalse(self.assert_judged(DIAMOND, TWO, sheet, (((0, 0, 0),), ("a", "b", "d"), told[2])))

    def test_heights_otherwise(self):
        verdicts, draw = [], random.Random(101)
        for steps, counters, sheet in doubtful_sheets(draw, 130, 4):
            told = doubts(Program(steps), counters, sheet)
            if told is None:
                continue
            for place, row in enumerate(told[2]):
                for some in ((), (row, row), (row[:2] + (row[2] - 1,),), (row[:2] + (row[2] + 1,),), (row[:2] + (True,),)):
                    value = told[:2] + (told[2][:place] + some + told[2][place + 1:],)
                    verdicts.append(self.assert_judged(steps, counters, sheet, value))
            verdicts.append(self.assert_judged(steps, counters, sheet, told[:2] + (told[2][::-1],)))
        self.assertGreater(verdicts.count(True), 100)
        self.assertGreater(verdicts.count(False), 500)

    def test_rows_of_states_to_which_no_run_comes(self):
        verdicts, draw = [], random.Random(102)
        for steps, counters, sheet in doubtful_sheets(draw, 200, 4):
            told = doubts(Program(steps), counters, sheet)
            if told is None:
                continue
            names, ticks = [step[0] for step in steps], plain.ticks_of(sheet[0][0])
            known = {row[:2]: row[2] for row in told[2]}
            odd = (draw.choice(names), tuple(tuple(draw.randrange(9 if size is None else min(size, 9)) for _, size in counters) for _ in sheet[0]))
            # With so much more than can be missed nothing goes wrong where all that follows has a row.
            known.setdefault((draw.randrange(1, ticks + 1), odd), 99)
            for t, state in sorted(known):
                self.fill(steps, counters, sheet, known, t, state)
            value = told[:2] + (tuple(sorted((t, state, height) for (t, state), height in known.items())),)
            verdicts.append(self.assert_judged(steps, counters, sheet, value))
            rows = [row for row in value[2] if row not in told[2]]
            for row in rows:
                less = tuple(other for other in value[2] if other != row)
                verdicts.append(self.assert_judged(steps, counters, sheet, told[:2] + (less,)))
        self.assertGreater(verdicts.count(True), 80)
        self.assertGreater(verdicts.count(False), 40)

    def fill(self, steps, counters, sheet, known, t, state):
        if t < plain.ticks_of(sheet[0][0]):
            for name in plain.step_of(steps, state[0])[2]:
                pair = plain_plans.doubted_behind(steps, counters, sheet, t, state[1], name)
                if pair is not None and (t + 1, pair[0]) not in known:
                    known[t + 1, pair[0]] = known[t, state]
                    self.fill(steps, counters, sheet, known, t + 1, pair[0])

    def test_an_end_that_goes_on_needs_no_row(self):
        # Of an ended sheet the state behind the last tick breaks, if something follows its step.
        sheet = ((((4, ("x",), (9,)),),), True)
        told = doubts(Program(ROUNDS), NONE, sheet)
        self.assert_like(told[:2], (((0, 0, 0),), ("a", "b", "a", "d")))
        self.assertEqual({row[1][0] for row in told[2] if row[0] == 4}, {"d"})
        self.assertTrue(self.assert_judged(ROUNDS, NONE, sheet, told))
        # Rows of such states may be there, as long as they are high enough.
        for height, right in ((0, False), (1, True), (9, True)):
            rows = tuple(sorted(told[2] + ((4, ("b", ((0,),)), height),)))
            self.assertIs(self.assert_judged(ROUNDS, NONE, sheet, told[:2] + (rows,)), right)


class TestLongSheets(FitTest):
    def test_forty_ticks(self):
        counters = ((("x", "y"), None), (("x", "y"), 3))
        run = ("a",) + tuple("abc"[number * number // 3 & 1] for number in range(39))
        draw = random.Random(40)
        plans = (((8, ("x", "y")),), ((5, ("y", None)), (3, (None, "x")), (1, ("x", "x"))))
        records = [plain.record_of(FULL, counters, plan, run) for plan in plans]
        program = Program(FULL)
        self.assert_like(doubts(program, counters, (tuple(records), False))[0], ())
        spoilt = [with_other_count(draw, counters, with_other_count(draw, counters, record)) for record in records]
        sheet = (tuple(spoilt), False)
        told = doubts(program, counters, sheet)
        self.assert_like(told[0], plain_plans.missed(FULL, counters, sheet, told[1]))
        self.assertLessEqual(len(told[0]), 4)
        self.assertGreater(len(told[0]), 0)
        self.assertIs(shows_doubts(program, counters, sheet, told), True)
        self.assertIs(shows_doubts(program, counters, sheet, told[:2] + (told[2][:-1],)), False)

    def test_a_count_that_no_run_can_have(self):
        sheet = ((tuple((8, ("x",), (GREAT,)) for _ in range(5)),), False)
        told = doubts(Program(FULL), NONE, sheet)
        self.assert_like(told[:2], (tuple((0, turn, 0) for turn in range(5)), ("a",) * 40))
        self.assertIs(shows_doubts(Program(FULL), NONE, sheet, told), True)


class TestErrors(FitTest):
    CALLS = ((doubts, ()), (shows_doubts, (((), (), ()),)))

    def test_no_counters(self):
        values = [value for value in ANY_VALUES + list(twists(TWO)) if not plain.is_counters(value)]
        for (function, rest), value in itertools.product(self.CALLS, values):
            self.assert_raises_just(BadCounters, value, function, Program(DIAMOND), value, BOTH, *rest)

    def test_no_sheet(self):
        values = [value for value in ANY_VALUES + list(twists(BOTH)) if not plain.is_sheet(TWO, value)]
        for (function, rest), value in itertools.product(self.CALLS, values):
            self.assert_raises_just(BadSheet, value, function, Program(DIAMOND), TWO, value, *rest)

    def test_the_first_one_that_applies(self):
        counters, sheet = [TWO], {}
        for (function, rest) in self.CALLS:
            self.assert_raises_just(BadCounters, counters, function, Program(DIAMOND), counters, sheet, *rest)
            self.assert_raises_just(BadSheet, sheet, function, Program(DIAMOND), TWO, sheet, *rest)
            self.assert_raises_just(BadSheet, BOTH, function, Program(DIAMOND), NONE, BOTH, *rest)


if __name__ == "__main__":
    unittest.main()

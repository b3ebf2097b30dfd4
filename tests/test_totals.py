"""Section 9: what totals are sure, the least and the greatest one, and heights that show them."""

import inspect
import itertools
import random
import unittest

from fitruns import totals as module
from fitruns.errors import BadCounters, BadQuestion, BadRange, BadSheet
from fitruns.fitting import how_many
from fitruns.programs import Program
from fitruns.totals import bounds, greatest, least, shows_greatest, shows_least, sure, visits
from tests import plain
from tests.samples import DIAMOND, FIVE, FREE, FULL, NONE, ROUNDS, SOLE, STAYS, TICK, TWO, free_sheet, some_sheets
from tests.support import ANY_VALUES, FitTest, is_int, twists
from tests.test_questions import judged_question

X = (("kind", "x", 1),)
MIXED = (("kind", "x", 3), ("kind", "y", -2), ("step", "a", 1), ("step", "b", -5), ("step", "none", 7))
QUESTIONS = (
    (), X, MIXED, (("kind", "y", 10), ("kind", "z", 1)), (("step", "b", 1),), (("kind", "k", -4), ("kind", "none", 3), ("step", "m", 2)),
    (("kind", "tick", 2), ("step", "c", -1), ("step", "d", 4), ("step", "z", -9)), (("kind", "x", -1), ("step", "a", 1)),
)
NOTHING = ((0, 0),)
HEIGHTS = ((1, ("a", NOTHING), 1), (2, ("b", NOTHING), 3), (2, ("c", NOTHING), 1), (3, ("d", NOTHING), 1))
UPPER = ((1, ("a", NOTHING), 1), (2, ("b", NOTHING), 3), (2, ("c", NOTHING), 1), (3, ("d", NOTHING), 3))
GREAT = 999999999999999999
ASKING = (bounds, sure, least, greatest)
SHOWING = (shows_least, shows_greatest)


def ranges(ticks):
    """Places since and until, at and beyond the ends."""
    return [(since, until) for since in range(ticks + 2) for until in [None] + list(range(since, ticks + 3))]


class TestExamples(FitTest):
    def test_the_first_one(self):
        program = Program((('a', (('x', 1),), ('b', 'c')), ('b', (('x', 2), ('y', 1)), ('d',)), ('c', (('y', 3),), ('d',)), ('d', (), ())))
        counters = ((('x', 'y'), None), (('y',), 4))
        sheet = ((((3, (None, None), (None, None)),),), True)
        question = (('kind', 'x', 1),)
        self.assert_like(
            [bounds(program, counters, sheet, question), sure(program, counters, sheet, question, until=1), visits(program, counters, sheet)],
            [(1, 3), 1, (('a', 1, 1), ('b', 0, 1), ('c', 0, 1), ('d', 1, 1))])

    def test_the_second_one(self):
        program = Program((('a', (('x', 1),), ('b', 'c')), ('b', (('x', 2), ('y', 1)), ('d',)), ('c', (('y', 3),), ('d',)), ('d', (), ())))
        counters = ((('x', 'y'), None), (('y',), 4))
        sheet = ((((3, (None, None), (None, None)),),), True)
        question, none = (('kind', 'x', 1),), ((0, 0),)
        heights = ((1, ('a', none), 1), (2, ('b', none), 3), (2, ('c', none), 1), (3, ('d', none), 1))
        self.assert_like(
            [least(program, counters, sheet, question)[:2], shows_least(program, counters, sheet, question, 1, heights), shows_least(program, counters, sheet, question, 2, heights)],
            [(1, ('a', 'c', 'd')), True, False])


class TestInterface(FitTest):
    def test_the_functions_are_defined_in_their_file(self):
        for name in ("bounds", "sure", "visits", "least", "shows_least", "greatest", "shows_greatest"):
            function = getattr(module, name)
            self.assertTrue(inspect.isfunction(function))
            self.assertEqual(function.__module__, "fitruns.totals")

    def test_arguments_by_name(self):
        named = {"until": None, "question": X, "sheet": FREE, "since": 0, "counters": TWO, "program": Program(DIAMOND)}
        self.assert_like(bounds(**named), (1, 3))
        self.assertIsNone(sure(**named))
        self.assert_like(least(**named)[:2], (1, ("a", "c", "d")))
        self.assert_like(greatest(**named)[:2], (3, ("a", "b", "d")))
        self.assertIs(shows_least(heights=HEIGHTS, value=1, **named), True)
        self.assertIs(shows_greatest(heights=UPPER, value=3, **named), True)
        self.assert_like(visits(sheet=SOLE, counters=TWO, program=Program(DIAMOND)), (("a", 1, 1), ("b", 1, 1), ("c", 0, 0), ("d", 1, 1)))

    def test_since_and_until_by_name_only(self):
        program = Program(DIAMOND)
        for function in ASKING:
            self.assertRaises(TypeError, function, program, TWO, FREE, X, 0)
            self.assertRaises(TypeError, function, program, TWO, FREE, X, 0, None)
        for function in SHOWING:
            self.assertRaises(TypeError, function, program, TWO, FREE, X, 1, HEIGHTS, 0)
            self.assertRaises(TypeError, function, program, TWO, FREE, X, 1, HEIGHTS, 0, None)


class TestAgainstAListing(FitTest):
    """The least and the greatest total are those of a run, and heights show that none lies beyond."""

    def setUp(self):
        draw = random.Random(9)
        self.samples = [sample + (draw.choice(QUESTIONS), draw) for sample in some_sheets(draw, 420)]

    def ways(self, draw, ticks):
        return [(0, None)] + draw.sample(ranges(ticks), 3)

    def test_the_samples_are_of_all_sorts(self):
        apart = sole = 0
        for steps, counters, sheet, question, _ in self.samples:
            worths = {plain.worth(steps, question, run) for run in plain.fitting_runs(steps, counters, sheet)}
            apart += len(worths) > 1
            sole += len(worths) == 1
        self.assertGreater(apart, 30)
        self.assertGreater(sole, 40)
        self.assertGreater(len(self.samples) - apart - sole, 40)

    def test_bounds_and_what_is_sure(self):
        for steps, counters, sheet, question, draw in self.samples:
            program, runs = Program(steps), plain.fitting_runs(steps, counters, sheet)
            for since, until in self.ways(draw, plain.ticks_of(sheet[0][0])):
                worths = [plain.worth(steps, question, run, since, until) for run in runs]
                both = (min(worths), max(worths)) if worths else None
                told = bounds(program, counters, sheet, question, since=since, until=until)
                self.assert_like(told, both, (steps, counters, sheet, question, since, until))
                told = sure(program, counters, sheet, question, since=since, until=until)
                self.assert_like(told, min(worths) if len(set(worths)) == 1 else None)

    def test_visits(self):
        for steps, counters, sheet, _, _ in self.samples:
            runs = plain.fitting_runs(steps, counters, sheet)
            wanted = None
            if runs:
                many = [(step[0], [run.count(step[0]) for run in runs]) for step in steps]
                wanted = tuple((name, min(counts), max(counts)) for name, counts in many)
            self.assert_like(visits(Program(steps), counters, sheet), wanted, (steps, counters, sheet))

    def assert_extreme(self, sample, since, until, told, best, judge, shows):
        steps, counters, sheet, question = sample
        runs = plain.fitting_runs(steps, counters, sheet)
        if not runs:
            self.assertIsNone(told)
            return
        worths = [plain.worth(steps, question, run, since, until) for run in runs]
        self.assertEqual((type(told), len(told)), (tuple, 3))
        value, run, heights = told
        self.assert_like(value, best(worths), (sample, since, until))
        self.assert_like(run, runs[worths.index(value)], (sample, since, until))
        self.assertTrue(judge(steps, counters, sheet, question, value, heights, since, until), (sample, since, until, told))
        self.assertIs(shows(Program(steps), counters, sheet, question, value, heights, since=since, until=until), True)

    def test_the_least_one(self):
        for *sample, draw in self.samples:
            steps, counters, sheet, question = sample
            for since, until in self.ways(draw, plain.ticks_of(sheet[0][0])):
                told = least(Program(steps), counters, sheet, question, since=since, until=until)
                self.assert_extreme(sample, since, until, told, min, plain.shows_least, shows_least)

    def test_the_greatest_one(self):
        for *sample, draw in self.samples:
            steps, counters, sheet, question = sample
            for since, until in self.ways(draw, plain.ticks_of(sheet[0][0])):
                told = greatest(Program(steps), counters, sheet, question, since=since, until=until)
                self.assert_extreme(sample, since, until, told, max, plain.shows_greatest, shows_greatest)

    def test_nothing_that_was_passed_is_changed(self):
        for steps, counters, sheet, question, _ in self.samples[:60]:
            program, before = Program(steps), repr((counters, sheet, question))
            for _ in range(2):
                told = [function(program, counters, sheet, question, since=1) for function in ASKING]
                again = [function(Program(steps), counters, sheet, question, since=1) for function in ASKING]
                self.assert_like(told, again)
                self.assert_like(visits(program, counters, sheet), visits(Program(steps), counters, sheet))
            self.assertEqual(repr((counters, sheet, question)), before)
            self.assertEqual(program.steps, steps)


class TestShowing(FitTest):
    def assert_judged(self, steps, counters, sheet, question, value, heights, since=0, until=None):
        before, told = repr(heights), []
        for shows, judge in ((shows_least, plain.shows_least), (shows_greatest, plain.shows_greatest)):
            wanted = judge(steps, counters, sheet, question, value, heights, since, until)
            now = shows(Program(steps), counters, sheet, question, value, heights, since=since, until=until)
            self.assertIs(now, wanted, (shows, steps, counters, sheet, question, value, heights, since, until))
            told.append(wanted)
        self.assertEqual(repr(heights), before)
        return tuple(told)

    def test_any_value(self):
        for sheet in (FREE, FIVE, free_sheet(5, counters=2)):
            for value in ANY_VALUES:
                self.assert_judged(DIAMOND, TWO, sheet, X, 1, value)
                self.assert_judged(DIAMOND, TWO, sheet, X, 1, (value,))
                self.assert_judged(DIAMOND, TWO, sheet, X, 1, HEIGHTS + (value,))
                self.assert_judged(DIAMOND, TWO, sheet, X, 1, ((1, value, 1),))

    def test_with_one_part_otherwise(self):
        verdicts = []
        for heights, value in ((HEIGHTS, 1), (UPPER, 3)):
            for other in twists(heights):
                verdicts.append(self.assert_judged(DIAMOND, TWO, FREE, X, value, other))
        self.assertGreater(verdicts.count((True, False)), 10)
        self.assertGreater(verdicts.count((False, True)), 10)
        self.assertGreater(verdicts.count((False, False)), 2000)

    def test_of_two_records_with_one_part_otherwise(self):
        records = (((1, ("x", "y"), (1, 0)), (2, (None, "y"), (None, 1))), ((3, ("x", None), (3, None)),))
        for told in (least(Program(DIAMOND), TWO, (records, False), MIXED), greatest(Program(DIAMOND), TWO, (records, False), MIXED)):
            self.assertEqual(told[1], ("a", "b", "d"))
            for other in twists(told[2]):
                self.assert_judged(DIAMOND, TWO, (records, False), MIXED, told[0], other)

    def test_each_value(self):
        for value in range(-3, 7):
            self.assertIs(shows_least(Program(DIAMOND), TWO, FREE, X, value, HEIGHTS), value <= 1)
            self.assertIs(shows_greatest(Program(DIAMOND), TWO, FREE, X, value, UPPER), value >= 3)
            self.assert_judged(DIAMOND, TWO, FREE, X, value, HEIGHTS)
            self.assert_judged(DIAMOND, TWO, FREE, X, value, UPPER)

    def test_no_heights_show_what_is_no_integer(self):
        for value in (True, False, None, "1", (1,), [1], {}):
            for shows in SHOWING:
                self.assertIs(shows(Program(DIAMOND), TWO, FREE, X, value, HEIGHTS), False)

    def test_each_height(self):
        for place, step in itertools.product(range(4), range(-3, 4)):
            for heights, value in ((HEIGHTS, 1), (UPPER, 3)):
                t, state, height = heights[place]
                other = heights[:place] + ((t, state, height + step),) + heights[place + 1:]
                for more in (-1, 0, 1):
                    self.assert_judged(DIAMOND, TWO, FREE, X, value + more, other)

    def test_heights_may_leave_room(self):
        low = ((1, ("a", NOTHING), -2), (2, ("b", NOTHING), -1), (2, ("c", NOTHING), -3), (3, ("d", NOTHING), -5))
        self.assertIs(shows_least(Program(DIAMOND), TWO, FREE, X, -5, low), True)
        self.assertIs(shows_least(Program(DIAMOND), TWO, FREE, X, -4, low), False)
        high = ((1, ("a", NOTHING), 2), (2, ("b", NOTHING), 4), (2, ("c", NOTHING), 9), (3, ("d", NOTHING), 10))
        self.assertIs(shows_greatest(Program(DIAMOND), TWO, FREE, X, 10, high), True)
        self.assertIs(shows_greatest(Program(DIAMOND), TWO, FREE, X, 9, high), False)

    def test_a_row_that_is_missing_or_there_twice(self):
        for heights in (HEIGHTS, UPPER):
            for place in range(4):
                self.assertEqual(self.assert_judged(DIAMOND, TWO, FREE, X, 1, heights[:place] + heights[place + 1:]), (False, False))
                t, state, height = heights[place]
                twice = heights[:place + 1] + ((t, state, height + 1),) + heights[place + 1:]
                self.assertEqual(self.assert_judged(DIAMOND, TWO, FREE, X, 0, twice), (False, False))
                self.assertEqual(self.assert_judged(DIAMOND, TWO, FREE, X, 5, twice), (False, False))
        self.assertIs(shows_least(Program(DIAMOND), TWO, FREE, X, 1, HEIGHTS[:2] + HEIGHTS[3:]), False)

    def test_rows_ascend_in_a_tuple(self):
        for heights in (HEIGHTS[::-1], HEIGHTS[:1] + HEIGHTS[2:0:-1] + HEIGHTS[3:], list(HEIGHTS), {row: 1 for row in HEIGHTS},
                        HEIGHTS[1:] + HEIGHTS[:1], (HEIGHTS,), HEIGHTS + HEIGHTS, tuple(list(row) for row in HEIGHTS)):
            self.assertEqual(self.assert_judged(DIAMOND, TWO, FREE, X, 1, heights), (False, False))

    def test_rows_of_states_to_which_no_run_comes(self):
        more = [(1, ("d", NOTHING), -9), (1, ("b", NOTHING), 1), (1, ("b", NOTHING), 0), (2, ("d", NOTHING), 4), (2, ("a", NOTHING), 1),
                (3, ("a", NOTHING), 1), (3, ("a", NOTHING), 0), (3, ("b", ((7, 3),)), 2), (3, ("b", ((7, 4),)), 2), (2, ("c", ((1, 1),)), 1),
                (2, ("c", ((1, 1),)), 0), (0, ("d", NOTHING), 1), (4, ("d", NOTHING), 1), (1, ("c", ((5, 0),)), 1), (3, ("d", ((0, 3),)), 1),
                (True, ("d", NOTHING), 1), (2, ("d", NOTHING), True), (2, ("d", NOTHING), None), (2, ("e", NOTHING), 1), (3, ("a", NOTHING), 4)]
        verdicts = []
        for heights, value in ((HEIGHTS, 1), (UPPER, 3)):
            for row in more:
                try:
                    other = tuple(sorted(heights + (row,)))
                except TypeError:
                    other = heights + (row,)
                verdicts.append(self.assert_judged(DIAMOND, TWO, FREE, X, value, other))
        self.assertGreater(verdicts.count((True, False)), 5)
        self.assertGreater(verdicts.count((False, True)), 5)
        self.assertGreater(verdicts.count((False, False)), 10)
        extra = HEIGHTS[:1] + ((1, ("d", NOTHING), -9),) + HEIGHTS[1:]
        self.assertIs(shows_least(Program(DIAMOND), TWO, FREE, X, 1, extra), True)

    def test_a_row_of_a_state_that_shows_what_it_cannot(self):
        # A turn begins, a counter is on nothing: what follows adds to what is shown, or shows 0.
        sheet = ((((1, ("tick",), (1,)), (2, ("tick",), (2,))),), False)
        told = least(Program(STAYS), TICK, sheet, (("step", "on", 1),))
        zero, one, five, six = [("on", ((many,),)) for many in (0, 1, 5, 6)]
        self.assertEqual(told, (3, ("on", "on", "on"), ((1, zero, 1), (2, one, 2), (3, zero, 3))))
        for rows, right in ((((1, zero, 1), (1, five, 1), (2, one, 2), (2, six, 2), (3, zero, 3)), True),
                            (((1, zero, 1), (1, five, 1), (2, one, 2), (3, zero, 3)), False),
                            (((1, zero, 1), (1, five, 1), (2, one, 2), (2, five, 2), (3, zero, 3)), False),
                            (((1, zero, 1), (2, one, 2), (2, six, -7), (3, zero, 3)), True),
                            (((1, zero, 1), (1, five, 0), (2, one, 2), (2, six, 2), (3, zero, 3)), False)):
            self.assertIs(shows_least(Program(STAYS), TICK, sheet, (("step", "on", 1),), 3, rows), right, rows)
            self.assert_judged(STAYS, TICK, sheet, (("step", "on", 1),), 3, rows)

    def test_a_sheet_that_no_run_fits(self):
        program = Program(DIAMOND)
        self.assertEqual([function(program, TWO, FIVE, X) for function in ASKING], [None] * 4)
        self.assertIsNone(visits(program, TWO, FIVE))
        rows = ((1, ("a", ((1, 0),)), 1), (2, ("b", ((3, 0),)), 3), (2, ("c", ((1, 0),)), 1))
        for value in (-GREAT, -1, 0, 1, 2, 3, 4, GREAT):
            self.assertEqual(self.assert_judged(DIAMOND, TWO, FIVE, X, value, rows), (True, True))
            self.assertEqual(self.assert_judged(DIAMOND, TWO, FIVE, X, value, rows[:2]), (False, False))
        # The state behind one tick breaks: nothing has to have a row.
        sheet = ((((1, ("x",), (2,)), (1, (None,), (None,))),), False)
        for value in (-GREAT, 0, GREAT):
            self.assertEqual(self.assert_judged(DIAMOND, NONE, sheet, X, value, ()), (True, True))
        self.assertEqual(self.assert_judged(DIAMOND, NONE, free_sheet(2), X, 0, ()), (False, False))

    def test_other_heights_drawn_by_chance(self):
        draw = random.Random(99)
        verdicts = []
        for steps, counters, sheet in some_sheets(draw, 160, 5):
            program, question = Program(steps), draw.choice(QUESTIONS)
            since, until = draw.choice(ranges(plain.ticks_of(sheet[0][0])))
            for function, sign in ((least, 1), (greatest, -1)):
                told = function(program, counters, sheet, question, since=since, until=until)
                if told is None:
                    continue
                value, _, heights = told
                for _ in range(8):
                    place = draw.randrange(len(heights))
                    t, state, height = heights[place]
                    moved = heights[:place] + ((t, state, height + draw.choice((-2, -1, 1, 2))),) + heights[place + 1:]
                    shifted = tuple((t, state, height - sign * 2 * t) for t, state, height in heights)
                    less = heights[:place] + heights[place + 1:]
                    for other in (moved, shifted, less):
                        at = value + draw.choice((0, 0, -1, 1, -sign * 2 * plain.ticks_of(sheet[0][0])))
                        verdicts.append(self.assert_judged(steps, counters, sheet, question, at, other, since, until))
        self.assertGreater(len(verdicts) - verdicts.count((False, False)), 300)
        self.assertGreater(verdicts.count((False, False)), 1000)


class TestSome(FitTest):
    def test_weights_below_0_and_names_that_the_program_has_not(self):
        program = Program(DIAMOND)
        self.assert_like(bounds(program, TWO, FREE, (("kind", "x", -1),)), (-3, -1))
        self.assert_like(bounds(program, TWO, FREE, (("kind", "none", 5), ("step", "none", 7))), (0, 0))
        self.assert_like(sure(program, TWO, FREE, ()), 0)
        self.assert_like(sure(program, TWO, FREE, (("kind", "none", 5),)), 0)
        self.assert_like(bounds(program, TWO, FREE, (("step", "b", -2), ("step", "c", 7))), (-2, 7))
        self.assert_like(bounds(program, TWO, FREE, (("kind", "y", 1),)), (1, 3))
        self.assert_like(bounds(program, TWO, FREE, (("kind", "x", GREAT), ("kind", "y", -GREAT))), (-2 * GREAT, 2 * GREAT))

    def test_the_least_of_all_runs_that_have_it(self):
        program = Program(FULL)
        for length in (1, 2, 5, 40):
            sheet = free_sheet(length)
            for function in (least, greatest):
                self.assert_like(function(program, NONE, sheet, ())[:2], (0, ("a",) * length))
            self.assert_like(least(program, NONE, sheet, X)[:2], (1, ("a",) + ("b",) * (length - 1)))
            self.assert_like(greatest(program, NONE, sheet, X)[:2], (length, ("a",) * length))
            self.assert_like(greatest(program, NONE, sheet, (("kind", "x", -1),))[:2], (-1, ("a",) + ("b",) * (length - 1)))

    def test_a_part(self):
        program, sheet = Program(FULL), free_sheet(6)
        for since, until in ranges(6):
            end = 6 if until is None else min(until, 6)
            least_many = 1 if since == 0 and end > 0 else 0
            many = max(end - since, 0)
            told = bounds(program, NONE, sheet, X, since=since, until=until)
            self.assert_like(told, (least_many, many), (since, until))
            self.assert_like(sure(program, NONE, sheet, X, since=since, until=until), many if least_many == many else None)
            run = ("a",) + tuple("b" if since <= place < end else "a" for place in range(1, 6))
            self.assert_like(least(program, NONE, sheet, X, since=since, until=until)[:2], (least_many, run))
        self.assert_like(bounds(program, NONE, sheet, X, since=GREAT), (0, 0))
        self.assert_like(bounds(program, NONE, sheet, X, until=GREAT), (1, 6))
        self.assert_like(bounds(program, NONE, sheet, X, since=2), (0, 4))
        self.assert_like(bounds(program, NONE, sheet, X, until=2), (1, 2))

    def test_without_since_and_until_all_places_count(self):
        program, sheet = Program(FULL), free_sheet(3)
        both = bounds(program, NONE, sheet, X)
        self.assert_like(both, (1, 3))
        for function in ASKING:
            told = function(program, NONE, sheet, X)
            self.assert_like(told, function(program, NONE, sheet, X, since=0, until=None))
        for function, shows, value in ((least, shows_least, 1), (greatest, shows_greatest, 3)):
            for since, until in ranges(3):
                rows = function(program, NONE, sheet, X, since=since, until=until)[2]
                for other in range(-1, 5):
                    told = shows(program, NONE, sheet, X, other, rows)
                    self.assertIs(told, shows(program, NONE, sheet, X, other, rows, since=0, until=None))
            rows = function(program, NONE, sheet, X)[2]
            self.assertIs(shows(program, NONE, sheet, X, value, rows), True)
        for since, until in ((1, None), (0, 2)):
            # Under this part the rows are too high for the least worth, or too low for the greatest one, of the whole.
            for function, shows, sign in ((least, shows_least, -1), (greatest, shows_greatest, 1)):
                question = (("kind", "x", sign), ("step", "b", sign), ("step", "c", sign))
                value, _, rows = function(program, NONE, sheet, question, since=since, until=until)
                self.assertIs(shows(program, NONE, sheet, question, value, rows, since=since, until=until), True)
                self.assertIs(shows(program, NONE, sheet, question, value, rows), False)

    def test_what_heights_tell_of_a_part(self):
        program, sheet = Program(FULL), free_sheet(3)
        for since, until in ranges(3):
            value, _, heights = least(program, NONE, sheet, X, since=since, until=until)
            for other_since, other_until in ranges(3):
                wanted = plain.shows_least(FULL, NONE, sheet, X, value, heights, other_since, other_until)
                told = shows_least(program, NONE, sheet, X, value, heights, since=other_since, until=other_until)
                self.assertIs(told, wanted)

    def test_visits(self):
        program = Program(FULL)
        self.assert_like(visits(program, NONE, free_sheet(40)), (("a", 1, 40), ("b", 0, 39), ("c", 0, 39)))
        counted = ((tuple((8, ("x",), (many,)) for many in (3, 0, 8, 1, 5)),), False)
        self.assert_like(visits(program, NONE, counted), (("a", 17, 17), ("b", 0, 23), ("c", 0, 23)))
        rounds = Program(ROUNDS)
        self.assert_like(visits(rounds, NONE, free_sheet(40, ended=True)), (("a", 20, 20), ("b", 0, 19), ("c", 0, 19), ("d", 1, 1)))
        self.assertIsNone(visits(rounds, NONE, free_sheet(39, ended=True)))


class TestLongSheets(FitTest):
    def test_40_ticks(self):
        counters = ((("x", "y"), None), (("x", "y"), 3))
        run = ("a",) + tuple("abc"[number * number // 3 & 1] for number in range(39))
        plans = (((8, ("x", "y")),), ((5, ("y", None)), (3, (None, "x")), (1, ("x", "x"))))
        sheet = (tuple(plain.record_of(FULL, counters, plan, run) for plan in plans), False)
        program = Program(FULL)
        self.assertGreater(how_many(program, counters, sheet), 10 ** 6)
        for question, (since, until) in itertools.product(QUESTIONS, ((0, None), (3, 30), (39, None), (40, 41))):
            low, high = bounds(program, counters, sheet, question, since=since, until=until)
            self.assertTrue(low <= plain.worth(FULL, question, run, since, until) <= high)
            for function, value, judge in ((least, low, plain.shows_least), (greatest, high, plain.shows_greatest)):
                told = function(program, counters, sheet, question, since=since, until=until)
                self.assertEqual(told[0], value)
                self.assertTrue(plain.fits(FULL, counters, sheet, told[1]))
                self.assertEqual(plain.worth(FULL, question, told[1], since, until), value)
                self.assertTrue(judge(FULL, counters, sheet, question, value, told[2], since, until))
            rows = least(program, counters, sheet, question, since=since, until=until)[2]
            self.assertIs(shows_least(program, counters, sheet, question, low, rows, since=since, until=until), True)
            self.assertIs(shows_least(program, counters, sheet, question, low + 1, rows, since=since, until=until), False)

    def test_what_each_turn_leaves_open(self):
        program = Program(FULL)
        counted = ((tuple((8, ("x",), (many,)) for many in (3, 0, 8, 1, 5)),), False)
        self.assert_like(bounds(program, NONE, counted, X), (17, 17))
        self.assert_like(sure(program, NONE, counted, X), 17)
        self.assert_like(bounds(program, NONE, counted, (("kind", "y", 1),)), (0, 23))
        self.assert_like(sure(program, NONE, counted, X, since=8, until=24), 8)
        self.assert_like(bounds(program, NONE, counted, X, since=4, until=12), (0, 2))
        self.assert_like(bounds(program, NONE, counted, X, since=28, until=36), (1, 5))
        told = least(program, NONE, counted, X, since=28, until=36)
        self.assert_like(told[:2], (1, tuple("aaabbbbb" + "bbbbbbbb" + "aaaaaaaa" + "abbbbbbb" + "abbbaaaa")))


class TestErrors(FitTest):
    def calls(self):
        """Each function with what is passed behind the sheet."""
        asking = [(function, (X,)) for function in ASKING]
        return asking + [(function, (X, 1, HEIGHTS)) for function in SHOWING]

    def test_no_counters(self):
        values = [value for value in ANY_VALUES + list(twists(TWO)) if not plain.is_counters(value)]
        for (function, rest), value in itertools.product(self.calls() + [(visits, ())], values):
            self.assert_raises_just(BadCounters, value, function, Program(DIAMOND), value, FREE, *rest)

    def test_no_sheet(self):
        values = [value for value in ANY_VALUES + list(twists(SOLE)) if not plain.is_sheet(TWO, value)]
        for (function, rest), value in itertools.product(self.calls() + [(visits, ())], values):
            self.assert_raises_just(BadSheet, value, function, Program(DIAMOND), TWO, value, *rest)

    def test_no_question(self):
        values = [value for value in ANY_VALUES + list(twists(MIXED[:3])) if not judged_question(value)]
        for (function, rest), value in itertools.product(self.calls(), values):
            for sheet in (FREE, FIVE):
                self.assert_raises_just(BadQuestion, value, function, Program(DIAMOND), TWO, sheet, value, *rest[1:])

    def test_no_place_to_begin(self):
        for function, rest in self.calls():
            for value in ANY_VALUES + [-1, "0", (0,), [0], {0: 0}]:
                if not is_int(value) or value < 0:
                    for until in (None, 0, 3):
                        self.assert_raises_just(BadRange, value, function, Program(DIAMOND), TWO, FREE, *rest, since=value, until=until)
                    self.assert_raises_just(BadRange, value, function, Program(DIAMOND), TWO, FIVE, *rest, since=value)

    def test_no_place_to_end(self):
        for function, rest in self.calls():
            for since in (0, 1, 3, 5):
                for value in ANY_VALUES + [since - 1, "5", (5,), [5], {5: 5}]:
                    if value is not None and (not is_int(value) or value < since):
                        self.assert_raises_just(BadRange, value, function, Program(DIAMOND), TWO, FREE, *rest, since=since, until=value)
            for value in (-1, True, False, "", [], ()):
                self.assert_raises_just(BadRange, value, function, Program(DIAMOND), TWO, FIVE, *rest, until=value)

    def test_right_ranges_raise_nothing(self):
        for since, until in ranges(3) + [(GREAT, None), (GREAT, GREAT), (0, GREAT), (40, 41)]:
            told = bounds(Program(DIAMOND), TWO, FREE, X, since=since, until=until)
            worths = [plain.worth(DIAMOND, X, run, since, until) for run in (("a", "b", "d"), ("a", "c", "d"))]
            self.assert_like(told, (min(worths), max(worths)))

    def test_the_first_one_that_applies(self):
        program = Program(DIAMOND)
        counters, sheet, question, since, until = [TWO], [FREE], [X], -7, "end"
        for function, rest in self.calls():
            rest = rest[1:]
            for others in itertools.product((FREE, sheet), (X, question)):
                self.assert_raises_just(BadCounters, counters, function, program, counters, *others, *rest, since=since, until=until)
                self.assert_raises_just(BadCounters, counters, function, program, counters, *others, *rest)
            for other in (X, question):
                self.assert_raises_just(BadSheet, sheet, function, program, TWO, sheet, other, *rest, since=since, until=until)
                self.assert_raises_just(BadSheet, sheet, function, program, TWO, sheet, other, *rest)
            self.assert_raises_just(BadQuestion, question, function, program, TWO, FREE, question, *rest, since=since, until=until)
            self.assert_raises_just(BadQuestion, question, function, program, TWO, FREE, question, *rest, until=until)
            self.assert_raises_just(BadRange, since, function, program, TWO, FREE, X, *rest, since=since, until=until)
            self.assert_raises_just(BadRange, since, function, program, TWO, FREE, X, *rest, since=since, until=-9)
            self.assert_raises_just(BadRange, until, function, program, TWO, FREE, X, *rest, since=8, until=until)
        for function in SHOWING:
            self.assert_raises_just(BadRange, until, function, program, TWO, FREE, X, 1, [], until=until)
        self.assert_raises_just(BadCounters, counters, visits, program, counters, sheet)


if __name__ == "__main__":
    unittest.main()

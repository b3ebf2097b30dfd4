"""Section 8: the runs that fit a sheet, and layers that show that there is none."""

import inspect
import itertools
import math
import random
import unittest

from fitruns import fitting as module
from fitruns.errors import BadCounters, BadRun, BadSheet, BadTick, NoFit, NoRun
from fitruns.fitting import fitting, how_many, index_of, nth, shows_stuck, stuck, where
from fitruns.programs import Program
from tests import plain
from tests.samples import (
    ALONE, COUNTERS, DIAMOND, FIVE, FREE, FULL, LOOPS, NONE, ROUNDS, SOLE, STAYS, TICK, TWO, free_sheet, some_sheets,
)
from tests.support import ANY_VALUES, FitTest, is_int, twists

LAYERS = ((("a", ((1, 0),)),), (("b", ((3, 0),)), ("c", ((1, 0),))))
GREAT = 999999999999999999


class TestExamples(FitTest):
    def test_the_first_one(self):
        program = Program((('a', (('x', 1),), ('b', 'c')), ('b', (('x', 2), ('y', 1)), ('d',)), ('c', (('y', 3),), ('d',)), ('d', (), ())))
        counters = ((('x', 'y'), None), (('y',), 4))
        sheet = ((((3, ('x', None), (3, None)),),), True)
        free = ((((3, (None, None), (None, None)),),), True)
        self.assert_like(
            [fitting(program, counters, sheet), where(program, counters, free, 1), how_many(program, counters, free), nth(program, counters, free, 1)],
            [('a', 'b', 'd'), ('b', 'c'), 2, ('a', 'c', 'd')])

    def test_the_second_one(self):
        program = Program((('a', (('x', 1),), ('b', 'c')), ('b', (('x', 2), ('y', 1)), ('d',)), ('c', (('y', 3),), ('d',)), ('d', (), ())))
        counters = ((('x', 'y'), None), (('y',), 4))
        sheet = ((((3, ('x', None), (5, None)),),), True)
        layers = ((('a', ((1, 0),)),), (('b', ((3, 0),)), ('c', ((1, 0),))))
        self.assert_like(
            [stuck(program, counters, sheet)[0], shows_stuck(program, counters, sheet, (3, layers)), shows_stuck(program, counters, sheet, (3, layers[:1]))],
            [3, True, False])


class TestInterface(FitTest):
    def test_the_functions_are_defined_in_their_file(self):
        for name in ("fitting", "stuck", "shows_stuck", "where", "how_many", "nth", "index_of"):
            function = getattr(module, name)
            self.assertTrue(inspect.isfunction(function))
            self.assertEqual(function.__module__, "fitruns.fitting")

    def test_arguments_by_name(self):
        named = {"sheet": FREE, "counters": TWO, "program": Program(DIAMOND)}
        self.assert_like(fitting(**named), ("a", "b", "d"))
        self.assertIsNone(stuck(**named))
        self.assertIs(shows_stuck(value=(1, ()), **named), False)
        self.assert_like(where(tick=1, **named), ("b", "c"))
        self.assert_like(how_many(**named), 2)
        self.assert_like(nth(index=1, **named), ("a", "c", "d"))
        self.assert_like(index_of(run=("a", "c", "d"), **named), 1)
        self.assert_raises_just(BadTick, 3, where, tick=3, **named)
        self.assert_raises_just(NoRun, 2, nth, index=2, **named)
        self.assert_raises_just(BadRun, "a", index_of, run="a", **named)


class TestAgainstAListing(FitTest):
    """What is told of a sheet is exactly what holds in all runs that fit it."""

    def setUp(self):
        self.samples = list(some_sheets(random.Random(8), 350))

    def test_the_samples_are_of_all_sorts(self):
        many = [len(plain.fitting_runs(*sample)) for sample in self.samples]
        self.assertGreater(many.count(0), 50)
        self.assertGreater(many.count(1), 30)
        self.assertGreater(len([number for number in many if number > 3]), 20)
        self.assertGreater(len([sample for sample in self.samples if len(sample[2][0]) == 2]), 80)
        self.assertGreater(len([sample for sample in self.samples if sample[2][1]]), 80)

    def test_the_least_run(self):
        for steps, counters, sheet in self.samples:
            runs = plain.fitting_runs(steps, counters, sheet)
            told = fitting(Program(steps), counters, sheet)
            self.assert_like(told, runs[0] if runs else None, (steps, counters, sheet))

    def test_how_many_and_each_by_its_index(self):
        for steps, counters, sheet in self.samples:
            program, runs = Program(steps), plain.fitting_runs(steps, counters, sheet)
            self.assert_like(how_many(program, counters, sheet), len(runs), (steps, counters, sheet))
            for index, run in enumerate(runs):
                self.assert_like(nth(program, counters, sheet, index), run)
                self.assert_like(index_of(program, counters, sheet, run), index)
            self.assert_raises_just(NoRun, len(runs), nth, program, counters, sheet, len(runs))
            self.assert_raises_just(NoRun, -1, nth, program, counters, sheet, -1)

    def test_where_they_are(self):
        for steps, counters, sheet in self.samples:
            program, runs = Program(steps), plain.fitting_runs(steps, counters, sheet)
            ticks = plain.ticks_of(sheet[0][0])
            for tick in range(ticks):
                wanted = tuple(sorted({run[tick] for run in runs}))
                self.assert_like(where(program, counters, sheet, tick), wanted, (steps, counters, sheet, tick))
            for tick in (-1, ticks, ticks + 1):
                self.assert_raises_just(BadTick, tick, where, program, counters, sheet, tick)

    def test_runs_that_do_not_fit(self):
        many = 0
        for steps, counters, sheet in self.samples:
            program = Program(steps)
            for length in range(1, plain.ticks_of(sheet[0][0]) + 2):
                for run in plain.runs_of(steps, length)[:20]:
                    if not plain.fits(steps, counters, sheet, run):
                        many += 1
                        self.assert_raises_just(NoFit, run, index_of, program, counters, sheet, run, word="run")
        self.assertGreater(many, 1000)

    def test_stuck(self):
        found = {}
        for steps, counters, sheet in self.samples:
            program = Program(steps)
            told = stuck(program, counters, sheet)
            if plain.fitting_runs(steps, counters, sheet):
                self.assertIsNone(told)
                continue
            ticks = plain.ticks_of(sheet[0][0])
            t = [t for t in range(1, ticks + 1) if not plain.unbroken_runs(steps, counters, sheet, t)][0]
            found[ticks - t] = found.get(ticks - t, 0) + 1
            self.assertEqual((type(told), len(told), told[0], is_int(told[0])), (tuple, 2, t, True))
            self.assertTrue(plain.shows_stuck(steps, counters, sheet, told), (steps, counters, sheet, told))
            self.assertIs(shows_stuck(program, counters, sheet, told), True)
        self.assertGreater(found[0], 20)
        self.assertGreater(sum(found.values()) - found[0], 20)

    def test_nothing_that_was_passed_is_changed(self):
        for steps, counters, sheet in self.samples[:60]:
            program, before = Program(steps), repr((counters, sheet))
            for _ in range(2):
                told = [fitting(program, counters, sheet), stuck(program, counters, sheet), how_many(program, counters, sheet),
                        where(program, counters, sheet, 0), shows_stuck(program, counters, sheet, (1, ()))]
                again = [fitting(Program(steps), counters, sheet), stuck(program, counters, sheet),
                         how_many(program, counters, sheet), where(program, counters, sheet, 0),
                         shows_stuck(program, counters, sheet, (1, ()))]
                self.assert_like(told, again)
            self.assertEqual(repr((counters, sheet)), before)
            self.assertEqual(program.steps, steps)


class TestStuck(FitTest):
    def test_the_state_behind_one_tick_breaks(self):
        for counters, sheet in ((NONE, ((((1, ("x",), (2,)), (1, (None,), (None,))),), False)),
                                (NONE, ((((1, ("x",), (2,)),),), False)), (NONE, ((((1, (None,), (None,)),),), True))):
            program = Program(DIAMOND)
            self.assert_like(stuck(program, counters, sheet), (1, ()))
            self.assertIs(shows_stuck(program, counters, sheet, (1, ())), True)

    def test_no_run_is_so_long(self):
        program = Program(DIAMOND)
        for length in range(4, 41):
            told = stuck(program, NONE, free_sheet(length))
            self.assertEqual(told[0], 4)
            self.assertTrue(plain.shows_stuck(DIAMOND, NONE, free_sheet(length), told))
            self.assertIs(shows_stuck(program, NONE, free_sheet(length), told), True)
        self.assert_like(stuck(Program(ALONE), NONE, free_sheet(2)), (2, ((("only", ((0,),)),),)))

    def test_the_end_is_at_a_step_that_something_follows(self):
        told = stuck(Program(STAYS), TICK, free_sheet(40, ended=True))
        self.assertEqual(told[0], 40)
        self.assertIs(shows_stuck(Program(STAYS), TICK, free_sheet(40, ended=True), told), True)
        self.assertIsNone(stuck(Program(STAYS), TICK, free_sheet(40)))

    def test_of_two_records_the_one_that_breaks_first(self):
        right, late, soon = ((3, ("x", None), (3, None)),), ((3, ("y", None), (9, None)),), \
            ((1, ("y", None), (0, None)), (1, ("y", None), (2, None)), (1, (None, None), (None, None)))
        program = Program(DIAMOND)
        for records, t in (((right, late), 3), ((late, right), 3), ((right, soon), 2), ((soon, late), 2), ((late, soon), 2)):
            told = stuck(program, TWO, (records, True))
            self.assertEqual(told[0], t)
            self.assertTrue(plain.shows_stuck(DIAMOND, TWO, (records, True), told))
        self.assertIsNone(stuck(program, TWO, ((right, right), True)))

    def test_each_record_may_hold_for_other_runs_alone(self):
        # One record holds for the way over b, the other one for the way over c.
        one, other = ((3, ("x", None), (3, None)),), ((3, ("y", None), (3, None)),)
        program = Program(DIAMOND)
        self.assertEqual([fitting(program, TWO, ((record,), True)) for record in (one, other)], [("a", "b", "d"), ("a", "c", "d")])
        self.assertIsNone(fitting(program, TWO, ((one, other), True)))
        self.assertEqual(stuck(program, TWO, ((one, other), True))[0], 3)

    def test_40_ticks(self):
        sheet = ((tuple([(8, ("x",), (3,))] * 4 + [(8, ("x",), (9,))]),), False)
        told = stuck(Program(FULL), NONE, sheet)
        self.assertEqual(told[0], 40)
        self.assertTrue(plain.shows_stuck(FULL, NONE, sheet, told))
        self.assertIs(shows_stuck(Program(FULL), NONE, sheet, told), True)


class TestShowsStuck(FitTest):
    def assert_judged(self, steps, counters, sheet, value):
        before, wanted = repr(value), plain.shows_stuck(steps, counters, sheet, value)
        self.assertIs(shows_stuck(Program(steps), counters, sheet, value), wanted, (steps, counters, sheet, value))
        self.assertEqual(repr(value), before)
        return wanted

    def test_any_value(self):
        for sheet in (FREE, SOLE, FIVE, free_sheet(4, counters=2)):
            for value in ANY_VALUES:
                self.assert_judged(DIAMOND, TWO, sheet, value)
                self.assert_judged(DIAMOND, TWO, sheet, (value, ()))
                self.assert_judged(DIAMOND, TWO, sheet, (1, value))
                self.assert_judged(DIAMOND, TWO, sheet, (2, (value,)))
                self.assert_judged(DIAMOND, TWO, sheet, (2, ((value,),)))

    def test_with_one_part_otherwise(self):
        verdicts = []
        for value in twists((3, LAYERS)):
            verdicts.append(self.assert_judged(DIAMOND, TWO, FIVE, value))
            self.assertIs(shows_stuck(Program(DIAMOND), TWO, SOLE, value), plain.shows_stuck(DIAMOND, TWO, SOLE, value))
        self.assertGreater(verdicts.count(True), 3)
        self.assertGreater(verdicts.count(False), 2000)

    def test_of_two_records_with_one_part_otherwise(self):
        records = (((1, ("x", "y"), (1, 0)), (2, ("y", None), (7, None))), ((3, ("x", None), (3, None)),))
        told = stuck(Program(DIAMOND), TWO, (records, False))
        self.assertEqual(told[0], 3)
        for value in twists(told):
            self.assert_judged(DIAMOND, TWO, (records, False), value)

    def test_a_sheet_that_a_run_fits_has_none(self):
        for t in range(5):
            self.assert_judged(DIAMOND, TWO, SOLE, (t, LAYERS[:max(t - 1, 0)]))
            self.assert_judged(DIAMOND, TWO, SOLE, (t, LAYERS + ((("d", ((0, 0),)),),)))
            self.assertIs(shows_stuck(Program(DIAMOND), TWO, SOLE, (t, LAYERS[:max(t - 1, 0)])), False)

    def test_one_more_state(self):
        more = [("a", ((0, 0),)), ("a", ((1, 3),)), ("a", ((2, 0),)), ("d", ((0, 0),)), ("d", ((77, 2),)), ("b", ((0, 0),)),
                ("c", ((5, 0),)), ("b", ((9, 0),)), ("c", ((4, 0),))]
        verdicts = []
        for place, state in itertools.product((0, 1), more):
            layer = tuple(sorted(set(LAYERS[place]) | {state}))
            verdicts.append(self.assert_judged(DIAMOND, TWO, FIVE, (3, LAYERS[:place] + (layer,) + LAYERS[place + 1:])))
        self.assertGreater(verdicts.count(True), 5)
        self.assertGreater(verdicts.count(False), 5)

    def test_layers_have_to_ascend(self):
        one, other = LAYERS[1]
        for layer, told in (((one, other), True), ((other, one), False), ((one, one, other), False), ((one, other, other), False),
                            ((one,), False), ((other,), False), ([one, other], False), ({one: 1, other: 1}, False)):
            self.assertIs(shows_stuck(Program(DIAMOND), TWO, FIVE, (3, (LAYERS[0], layer))), told)

    def test_a_t_that_is_not_the_least_one(self):
        program, sheet = Program(DIAMOND), free_sheet(9)
        layers = [(("a", ((0,),)),), (("b", ((0,),)), ("c", ((0,),))), (("d", ((0,),)),)]
        for t in range(12):
            value = (t, tuple(layers[:t - 1] + [()] * (t - 4)) if t > 0 else ())
            self.assertIs(shows_stuck(program, NONE, sheet, value), 4 <= t <= 9, t)
            self.assert_judged(DIAMOND, NONE, sheet, value)
        # Other states may stand in layers that no run comes to.
        self.assertIs(shows_stuck(program, NONE, sheet, (5, tuple(layers) + ((("d", ((6,),)),),))), True)
        self.assertIs(shows_stuck(program, NONE, sheet, (5, tuple(layers) + ((("b", ((6,),)),),))), False)

    def test_layers_may_be_empty(self):
        sheet = ((((1, ("x",), (2,)), (2, (None,), (None,))),), False)
        for value, told in (((1, ()), True), ((2, ((),)), True), ((3, ((), ())), True), ((4, ((), (), ())), False), ((3, ((),)), False),
                            ((0, ()), False), ((-1, ()), False), ((True, ()), False), ((2, ()), False), ((1, ((),)), False),
                            ((3, ((), (("b", ((0,),)),))), False), ((3, ((), (("d", ((0,),)),))), True)):
            self.assertIs(shows_stuck(Program(DIAMOND), NONE, sheet, value), told, value)
            self.assert_judged(DIAMOND, NONE, sheet, value)

    def test_a_state_adds_to_what_it_shows_also_where_a_turn_begins(self):
        program = Program(STAYS)
        sheet = ((((1, ("tick",), (1,)), (2, ("tick",), (9,))),), False)
        right = ((("on", ((0,),)),), (("on", ((1,),)),))
        self.assertEqual(stuck(program, TICK, sheet)[0], 3)
        self.assertIs(shows_stuck(program, TICK, sheet, (3, right)), True)
        for shown, after, told in ((5, 6, True), (5, 5, False), (5, 0, False), (5, 1, False), (7, 8, False), (8, 9, True), (6, 7, True)):
            layers = (right[0] + (("on", ((shown,),)),), tuple(sorted(set(right[1]) | {("on", ((after,),))})))
            self.assertIs(shows_stuck(program, TICK, sheet, (3, layers)), told, layers)
            self.assert_judged(STAYS, TICK, sheet, (3, layers))

    def test_a_counter_on_nothing_shows_0_behind_a_state(self):
        program = Program(STAYS)
        sheet = ((((2, (None,), (None,)), (1, ("tick",), (9,))),), False)
        zero, five, six = [("on", ((many,),)) for many in (0, 5, 6)]
        for layers, told in ((((zero,), (zero,)), True), (((zero, five), (zero,)), True), (((zero, five), (zero, six)), True),
                             (((five,), (zero,)), False), (((zero, five), (five,)), False)):
            self.assertIs(shows_stuck(program, TICK, sheet, (3, layers)), told, layers)
        sheet = ((((3, (None,), (None,)), (1, ("tick",), (9,))),), False)
        for layers, told in ((((zero,), (zero,), (zero,)), True), (((zero,), (zero, five), (zero,)), True),
                             (((zero,), (zero, five), (six,)), False)):
            self.assertIs(shows_stuck(program, TICK, sheet, (4, layers)), told, layers)
            self.assert_judged(STAYS, TICK, sheet, (4, layers))

    def test_states_by_their_form(self):
        program = Program(STAYS)
        counters = ((("tick",), None), (("tick",), 4))
        sheet = ((((3, ("tick", None), (9, None)),), ((1, (None, None), (None, None)), (2, (None, "tick"), (None, 2)))), False)
        told = stuck(program, counters, sheet)
        self.assertEqual(told[0], 3)
        self.assertIs(shows_stuck(program, counters, sheet, told), True)
        for state, right in ((("on", ((40, 3), (7, 1))), True), (("on", ((40, 4), (7, 1))), False), (("on", ((40, 3), (7, 4))), False),
                             (("on", ((GREAT, 0), (GREAT, 0))), True), (("on", ((-1, 0), (0, 0))), False),
                             (("on", ((0, -1), (0, 0))), False), (("on", ((0, 0),)), False), (("on", ((0, 0), (0, 0), (0, 0))), False),
                             (("on", ((0,), (0, 0))), False), (("on", ((0, 0, 0), (0, 0))), False), (("off", ((50, 0), (0, 0))), False),
                             (("on", [(50, 0), (0, 0)]), False), (("on", ((50, 0), [0, 0])), False), (["on", ((50, 0), (0, 0))], False),
                             (("on", ((True, 0), (0, 0))), False), (("on", ((50, False), (0, 0))), False), (("on", ((50, 0), (0, None))), False),
                             (("on", ((50, 0), (0, 0)), ()), False), (("on",), False), (None, False), ((1, ((50, 0), (0, 0))), False)):
            try:
                layer = tuple(sorted(set(told[1][1]) | {state}))
            except TypeError:
                layer = told[1][1] + (state,)
            self.assertIs(shows_stuck(program, counters, sheet, (3, (told[1][0], layer))), right, state)
            self.assert_judged(STAYS, counters, sheet, (3, (told[1][0], layer)))

    def closed(self, steps, counters, sheet, t, layers):
        """The layers with all that follows them."""
        closed, coming = [], plain.beginnings(steps, counters, sheet)
        for place in range(t - 1):
            closed.append(tuple(sorted(set(coming) | set(layers[place]))))
            coming = [other for state in closed[-1] for other in plain.followers(steps, counters, sheet, place + 1, state)]
        return tuple(closed)

    def test_other_layers_drawn_by_chance(self):
        draw = random.Random(88)
        verdicts = []
        for steps, counters, sheet in some_sheets(draw, 300, 5):
            if plain.fitting_runs(steps, counters, sheet):
                continue
            names, ticks = [step[0] for step in steps], plain.ticks_of(sheet[0][0])
            for _ in range(6):
                t = draw.randrange(1, ticks + 1)
                some = [[(draw.choice(names), tuple(tuple(draw.randrange(7 if size is None else min(size, 7)) for _, size in counters)
                                                    for _ in sheet[0])) for _ in range(draw.choice((0, 0, 1, 2)))] for _ in range(t)]
                layers = self.closed(steps, counters, sheet, t, some)
                verdicts.append(self.assert_judged(steps, counters, sheet, (t, layers)))
                for place, layer in enumerate(layers):
                    for state in layer:
                        less = tuple(other for other in layer if other != state)
                        value = (t, layers[:place] + (less,) + layers[place + 1:])
                        verdicts.append(self.assert_judged(steps, counters, sheet, value))
        self.assertGreater(verdicts.count(True), 100)
        self.assertGreater(verdicts.count(False), 300)


class TestLongSheets(FitTest):
    def test_nothing_counted(self):
        program = Program(FULL)
        for length in (1, 2, 7, 8, 9, 39, 40):
            for sheet in (free_sheet(length), free_sheet(length, records=2)):
                many = 3 ** (length - 1)
                self.assert_like(how_many(program, NONE, sheet), many)
                self.assert_like(fitting(program, NONE, sheet), ("a",) * length)
                self.assert_like(nth(program, NONE, sheet, many - 1), ("a",) + ("c",) * (length - 1))
                for tick in range(length):
                    self.assert_like(where(program, NONE, sheet, tick), ("a", "b", "c") if tick else ("a",))

    def test_runs_by_their_index_and_back(self):
        program, sheet = Program(FULL), free_sheet(40)
        draw = random.Random(40)
        for index in [0, 1, 2, 3, 3 ** 39 - 1] + [draw.randrange(3 ** 39) for _ in range(20)]:
            digits = [index // 3 ** place - index // 3 ** (place + 1) * 3 for place in range(39)]
            run = ("a",) + tuple("abc"[digit] for digit in reversed(digits))
            self.assert_like(nth(program, NONE, sheet, index), run)
            self.assert_like(index_of(program, NONE, sheet, run), index)
        self.assert_raises_just(NoRun, 3 ** 39, nth, program, NONE, sheet, 3 ** 39)

    def test_some_counted(self):
        # The first step is a, with one x; of each 8 steps so many have x, the others are one of two.
        program, wanted = Program(FULL), (3, 0, 8, 1, 5)
        sheet = ((tuple((8, ("x",), (many,)) for many in wanted),), False)
        many = math.comb(7, 2) * 2 ** 5
        for number in wanted[1:]:
            many *= math.comb(8, number) * 2 ** (8 - number)
        self.assert_like(how_many(program, NONE, sheet), many)
        least, last = nth(program, NONE, sheet, 0), nth(program, NONE, sheet, many - 1)
        self.assert_like(fitting(program, NONE, sheet), least)
        self.assert_like("".join(least), "aaabbbbb" + "bbbbbbbb" + "aaaaaaaa" + "abbbbbbb" + "aaaaabbb")
        self.assert_like("".join(last), "acccccaa" + "cccccccc" + "aaaaaaaa" + "ccccccca" + "cccaaaaa")
        draw = random.Random(4)
        for index in [draw.randrange(many) for _ in range(20)]:
            run = nth(program, NONE, sheet, index)
            self.assertTrue(plain.fits(FULL, NONE, sheet, run))
            self.assert_like(index_of(program, NONE, sheet, run), index)
        told = [where(program, NONE, sheet, tick) for tick in (0, 1, 8, 15, 16, 23, 24, 39)]
        self.assertEqual(told, [("a",), ("a", "b", "c"), ("b", "c"), ("b", "c"), ("a",), ("a",), ("a", "b", "c"), ("a", "b", "c")])

    def test_two_records_of_40_ticks(self):
        counters = ((("x", "y"), None), (("x", "y"), 3))
        run = ("a",) + tuple("abc"[number * number // 3 & 1] for number in range(39))
        plans = (((8, ("x", "y")),), ((5, ("y", None)), (3, (None, "x")), (1, ("x", "x"))))
        records = tuple(plain.record_of(FULL, counters, plan, run) for plan in plans)
        program, sheet = Program(FULL), (records, False)
        many = how_many(program, counters, sheet)
        self.assertGreater(many, 10 ** 6)
        runs = [nth(program, counters, sheet, index) for index in (0, 1, 2, many // 3, many - 2, many - 1)]
        self.assertEqual(runs, sorted(set(runs)))
        self.assertEqual(fitting(program, counters, sheet), runs[0])
        self.assertTrue(all(plain.fits(FULL, counters, sheet, each) for each in runs + [run]))
        self.assertEqual([index_of(program, counters, sheet, each) for each in runs], [0, 1, 2, many // 3, many - 2, many - 1])
        self.assertEqual(nth(program, counters, sheet, index_of(program, counters, sheet, run)), run)

    def test_an_end_that_few_runs_reach(self):
        program, sheet = Program(ROUNDS), free_sheet(40, ended=True)
        self.assert_like(how_many(program, NONE, sheet), 2 ** 19)
        self.assert_like(where(program, NONE, sheet, 39), ("d",))
        self.assert_like(where(program, NONE, sheet, 37), ("b", "c"))
        self.assert_like(how_many(program, NONE, free_sheet(39, ended=True)), 0)
        self.assert_like(how_many(program, NONE, free_sheet(39)), 2 ** 19)
        self.assert_like(where(program, NONE, free_sheet(40), 39), ("b", "c", "d"))
        counted = ((tuple([(8, ("x",), (4,))] * 4 + [(7, ("x",), (3,)), (1, (None,), (None,))]),), True)
        self.assert_like(how_many(program, NONE, counted), 1)
        self.assert_like(fitting(program, NONE, counted), ("a", "b") * 19 + ("a", "d"))

    def test_names_are_not_in_the_order_of_the_steps(self):
        program, sheet = Program(LOOPS), free_sheet(12)
        runs = plain.runs_of(LOOPS, 12)
        self.assertEqual(how_many(program, NONE, sheet), len(runs))
        for index in range(0, len(runs), 7):
            self.assert_like(nth(program, NONE, sheet, index), runs[index])
            self.assert_like(index_of(program, NONE, sheet, runs[index]), index)


class TestErrors(FitTest):
    CALLS = ((fitting, ()), (stuck, ()), (shows_stuck, ((3, LAYERS),)), (where, (1,)), (how_many, ()), (nth, (0,)),
             (index_of, (("a", "b", "d"),)))

    def test_no_counters(self):
        values = [value for value in ANY_VALUES + list(twists(TWO)) if not plain.is_counters(value)]
        for (function, rest), value in itertools.product(self.CALLS, values):
            self.assert_raises_just(BadCounters, value, function, Program(DIAMOND), value, FREE, *rest)

    def test_no_sheet(self):
        values = [value for value in ANY_VALUES + list(twists(SOLE)) if not plain.is_sheet(TWO, value)]
        self.assertGreater(len(values), 500)
        for (function, rest), value in itertools.product(self.CALLS, values):
            self.assert_raises_just(BadSheet, value, function, Program(DIAMOND), TWO, value, *rest)

    def test_sheets_with_one_part_otherwise_that_are_right(self):
        program = Program(DIAMOND)
        right = [value for value in twists(SOLE) if plain.is_sheet(TWO, value)]
        self.assertGreater(len(right), 30)
        for value in right:
            self.assert_like(how_many(program, TWO, value), len(plain.fitting_runs(DIAMOND, TWO, value)))

    def test_no_tick(self):
        program = Program(DIAMOND)
        for sheet, ticks in ((FREE, 3), (SOLE, 3), (FIVE, 3), (free_sheet(1, counters=2), 1), (free_sheet(40, counters=2), 40)):
            for value in ANY_VALUES + [-1, ticks, ticks + 1, GREAT, "0", (0,), [0], {0: 0}]:
                if not is_int(value) or not 0 <= value < ticks:
                    self.assert_raises_just(BadTick, value, where, program, TWO, sheet, value)

    def test_ticks_of_a_sheet_that_no_run_fits(self):
        self.assertEqual([where(Program(DIAMOND), TWO, FIVE, tick) for tick in range(3)], [(), (), ()])
        self.assertEqual([where(Program(DIAMOND), NONE, free_sheet(40), tick) for tick in (0, 3, 39)], [(), (), ()])

    def test_no_index(self):
        program = Program(DIAMOND)
        for sheet, many in ((FREE, 2), (SOLE, 1), (FIVE, 0)):
            self.assertEqual(how_many(program, TWO, sheet), many)
            for value in ANY_VALUES + [-1, many, many + 1, GREAT, "0", (0,), [0], {0: 0}]:
                if not is_int(value) or not 0 <= value < many:
                    self.assert_raises_just(NoRun, value, nth, program, TWO, sheet, value)

    def test_no_run(self):
        for sheet in (FREE, SOLE, FIVE):
            for value in ANY_VALUES + list(twists(("a", "b", "d"))):
                if not plain.is_run(DIAMOND, value):
                    self.assert_raises_just(BadRun, value, index_of, Program(DIAMOND), TWO, sheet, value)

    def test_a_run_that_does_not_fit(self):
        program = Program(DIAMOND)
        for sheet, runs in ((FREE, (("a",), ("a", "b"), ("a", "c"))), (SOLE, (("a",), ("a", "b"), ("a", "c", "d"))),
                            (FIVE, (("a", "b", "d"), ("a", "c", "d"), ("a",))), (free_sheet(2, counters=2, ended=True), (("a", "b"), ("a", "b", "d")))):
            for run in runs:
                self.assert_raises_just(NoFit, run, index_of, program, TWO, sheet, run, word="run")

    def test_the_first_one_that_applies(self):
        program = Program(DIAMOND)
        counters, sheet = [TWO], [FREE]
        wrong = {shows_stuck: ([],), where: ("tick",), nth: ("index",), index_of: ("run",), fitting: (), stuck: (), how_many: ()}
        for function, right in self.CALLS:
            for rest in (right, wrong[function]):
                self.assert_raises_just(BadCounters, counters, function, program, counters, sheet, *rest)
                self.assert_raises_just(BadCounters, counters, function, program, counters, FREE, *rest)
                self.assert_raises_just(BadSheet, sheet, function, program, TWO, sheet, *rest)
        run = ("b", "d")
        self.assert_raises_just(BadRun, run, index_of, program, TWO, FIVE, run)

    def test_a_sheet_of_other_counters_is_none(self):
        self.assert_raises_just(BadSheet, FREE, fitting, Program(DIAMOND), NONE, FREE)
        for counters in COUNTERS:
            if len(counters) != 2:
                self.assert_raises_just(BadSheet, FREE, how_many, Program(DIAMOND), counters, FREE)


if __name__ == "__main__":
    unittest.main()

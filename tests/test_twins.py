"""Section 11: how much two whole runs that are alike can differ."""

import inspect
import itertools
import random
import unittest

from fitruns import twins as module
from fitruns.errors import BadCounters, BadPlan, BadQuestion
from fitruns.programs import Program
from fitruns.questions import worth
from fitruns.records import alike
from fitruns.twins import shows_unsure, unsure
from tests import plain, plain_plans
from tests.samples import (
    ALONE, APART, COUNTERS, DIAMOND, FORK, FULL, LOST, NONE, RING, ROUNDS, STAYS, TICK, TWO_WAYS, WAITS, ringed_program,
    short_plan, some_program,
)
from tests.support import ANY_VALUES, FitTest, is_int, twists
from tests.test_questions import judged_question

HIT = ((("hit", "miss"), None),)
MISS = (("kind", "miss", 1),)
X = (("kind", "x", 1),)
QUESTIONS = (
    (), X, (("kind", "x", 3), ("kind", "y", -2), ("step", "a", 1), ("step", "b", -5), ("step", "none", 7)), (("step", "b", 1),),
    (("kind", "hit", -2), ("kind", "miss", 1), ("kind", "y", 10), ("kind", "z", 1)), (("step", "c", -1), ("step", "p", 4), ("step", "q", 1)),
    (("kind", "x", 1), ("kind", "y", -1)),
)
LITTLE = ((("x",), None),), ((("x", "y"), 2),), ((("x", "z"), 3), (("y",), None)), ((("hit", "miss", "x"), None), (("x", "y"), 4))
GREAT = 999999999999999999
# Rings that are entered at several places, and such that some ways round them gain nothing.
HARD = (
    ((("a", (("x", 3),), ("b", "c", "d")), ("b", (("x", 2), ("y", 2)), ("c", "d", "e")), ("c", (("x", 3), ("y", 3)), ("d",)), ("d", (("x", 2), ("y", 2)), ("b", "e")), ("e", (), ())),
     ((("x", "y"), 3),), ((2, ("x",)),), (("kind", "z", -2), ("step", "b", -1), ("step", "d", 1), ("step", "q", 1))),
    ((("a", (("x", 3), ("y", 1)), ("a", "b", "d")), ("b", (("x", 2),), ("b", "d", "e")), ("c", (("x", 2),), ("a", "d", "e")), ("d", (), ("b",)), ("e", (), ())),
     ((("x", "y"), None),), ((3, ("x",)),), (("step", "d", -1),)),
    ((("a", (("x", 3), ("y", 2)), ("a", "c", "e")), ("b", (("x", 2),), ("b", "c", "e")), ("c", (("x", 2), ("y", 2)), ("b",)), ("d", (("y", 1),), ("b", "d", "e")), ("e", (), ())),
     ((("x", "y"), 3),), ((2, ("y",)),), (("kind", "y", 2), ("kind", "z", -7), ("step", "b", -2), ("step", "c", 3))),
    ((("a", (("x", 3), ("y", 1)), ("a", "c")), ("b", (), ("b", "c")), ("c", (("x", 3), ("y", 3)), ("b", "d")), ("d", (), ())),
     ((("x", "y"), 3),), ((1, ("x",)),), (("kind", "hit", -7), ("kind", "y", -1))),
    ((("a", (), ("c", "d")), ("b", (("x", 1),), ("b", "d")), ("c", (("x", 3), ("y", 2)), ("a", "b")), ("d", (), ())),
     ((("x", "y"), None),), ((1, (None,)),), (("kind", "x", 1),)),
    ((("a", (), ("b", "c", "e")), ("b", (("x", 2), ("y", 1)), ("a", "c", "e")), ("c", (("x", 2), ("y", 1)), ("c", "d", "e")), ("d", (), ("c",)), ("e", (), ())),
     ((("x", "y"), None),), ((1, (None,)), (2, (None,))), (("kind", "miss", -1), ("step", "a", -1), ("step", "b", 1), ("step", "d", 2))),
)


def some_question(draw):
    """A question about one to four kinds and steps, drawn by chance."""
    names = [("kind", name) for name in ("hit", "miss", "x", "y", "z")] + [("step", name) for name in "abcdpq"]
    return tuple(item + (draw.choice((-7, -2, -1, 1, 1, 2, 3)),) for item in sorted(draw.sample(names, draw.choice((1, 2, 3, 4)))))


def samples(draw, many, longest=6):
    """Yield (steps, counters, plan, question), drawn by chance."""
    for number in range(many):
        steps = draw.choice(APART + (FORK, TWO_WAYS, ROUNDS) * 2) if number % 2 else some_program(draw)
        counters = draw.choice(LITTLE)
        question = draw.choice(QUESTIONS) if number % 4 == 0 else some_question(draw)
        yield steps, counters, short_plan(draw, counters, longest), question


def longest_way(steps):
    """How many steps the longest run has; None if there is a ring."""
    for length in range(1, len(steps) + 2):
        if not plain.runs_of(steps, length):
            return length - 1
    return None


class TestExamples(FitTest):
    def test_the_first_one(self):
        program = Program((('in', (), ('cold', 'hot')), ('hot', (('miss', 3),), ('out',)), ('cold', (('hit', 2),), ('out',)), ('out', (), ())))
        counters = ((('hit', 'miss'), None),)
        asked = (('kind', 'miss', 1),)
        self.assert_like(
            [unsure(program, counters, ((3, (None,)),), asked)[:4], unsure(program, counters, ((3, ('hit',)),), asked)[:2]],
            [('most', 3, ('in', 'hot', 'out'), ('in', 'cold', 'out')), ('most', 0)])

    def test_the_second_one(self):
        program = Program((('a', (), ('b', 'c', 'd')), ('b', (('x', 1),), ('a',)), ('c', (), ('a',)), ('d', (), ())))
        counters = ((('x',), None),)
        asked = (('kind', 'x', 1),)
        self.assert_like(
            [unsure(program, counters, ((2, (None,)),), asked)[0], unsure(program, counters, ((2, ('x',)),), asked)[:2]],
            ['grows', ('most', 0)])


class TestInterface(FitTest):
    def test_the_functions_are_defined_in_their_file(self):
        for name in ("unsure", "shows_unsure"):
            function = getattr(module, name)
            self.assertTrue(inspect.isfunction(function))
            self.assertEqual(function.__module__, "fitruns.twins")

    def test_arguments_by_name(self):
        named = {"question": MISS, "plan": ((3, (None,)),), "counters": HIT, "program": Program(TWO_WAYS)}
        told = unsure(**named)
        self.assert_like(told[:2], ("most", 3))
        self.assertIs(shows_unsure(value=told, **named), True)
        self.assertIs(shows_unsure(value=("none",), **named), False)


class TestAgainstAListing(FitTest):
    """What unsure tells of a plan holds for whole runs of all lengths."""

    def setUp(self):
        self.samples = list(samples(random.Random(11), 600))

    def test_what_it_tells_keeps_the_words_of_the_document(self):
        told = {"none": 0, "most": 0, "grows": 0}
        sure = 0
        for steps, counters, plan, question in self.samples:
            program = Program(steps)
            value = unsure(program, counters, plan, question)
            self.assertTrue(plain_plans.shows_unsure(steps, counters, plan, question, value), (steps, counters, plan, question, value))
            self.assertIs(shows_unsure(program, counters, plan, question, value), True)
            told[value[0]] += 1
            sure += value[:2] == ("most", 0)
        self.assertGreater(told["none"], 40)
        self.assertGreater(told["grows"], 30)
        self.assertGreater(told["most"] - sure, 40)
        self.assertGreater(sure, 100)

    def test_many_rings(self):
        draw = random.Random(1100)
        told = {"none": 0, "most": 0, "grows": 0}
        sure = 0
        for _ in range(1500):
            steps, counters = ringed_program(draw), draw.choice(LITTLE[:3])
            settings = plain.all_settings(counters)
            plan = tuple((draw.choice((1, 1, 2, 3)), draw.choice(settings)) for _ in range(draw.choice((1, 1, 2))))
            question = some_question(draw)
            value = unsure(Program(steps), counters, plan, question)
            self.assertTrue(plain_plans.shows_unsure(steps, counters, plan, question, value), (steps, counters, plan, question, value))
            told[value[0]] += 1
            sure += value[:2] == ("most", 0)
            if value[0] == "most":
                runs = plain_plans.whole_runs(steps, 6)
                self.assertLessEqual(plain_plans.most_apart(steps, counters, plan, question, runs) if runs else 0, value[1])
        self.assertGreater(told["grows"], 200)
        self.assertGreater(told["most"] - sure, 15)

    def test_rings_with_more_than_one_entry(self):
        for steps, counters, plan, question in HARD:
            value = unsure(Program(steps), counters, plan, question)
            self.assertTrue(plain_plans.shows_unsure(steps, counters, plan, question, value), (steps, counters, plan, question, value))
        self.assertEqual([unsure(Program(steps), counters, plan, question)[0] for steps, counters, plan, question in HARD], ["most"] * 3 + ["grows"] * 3)

    def test_no_two_short_runs_differ_by_more(self):
        reached = 0
        for steps, counters, plan, question in self.samples:
            program, runs = Program(steps), plain_plans.whole_runs(steps, 7)
            value = unsure(program, counters, plan, question)
            self.assertEqual(value[0] == "none", not plain_plans.has_whole_run(steps))
            if value[0] == "most" and runs:
                most = plain_plans.most_apart(steps, counters, plan, question, runs)
                self.assertLessEqual(most, value[1], (steps, counters, plan, question))
                reached += most == value[1]
                if longest_way(steps) is not None:
                    self.assertEqual(most, value[1], (steps, counters, plan, question))
                self.assertTrue(is_int(value[1]))
                self.assertEqual(worth(program, question, value[2]) - worth(program, question, value[3]), value[1])
        self.assertGreater(reached, 150)

    def test_rings_may_be_put_in_again(self):
        for steps, counters, plan, question in self.samples:
            program = Program(steps)
            value = unsure(program, counters, plan, question)
            if value[0] != "grows":
                continue
            _, one, other, first, last = value
            self.assertTrue(is_int(first) and is_int(last))
            gaps = []
            for times in (0, 1, 2, 3, 7):
                runs = [run[:first] + run[first:last] * times + run[last:] for run in (one, other)]
                self.assertTrue(all(program.is_whole(run) for run in runs))
                self.assertIs(alike(program, counters, plan, *runs), True)
                gaps.append(plain.worth(steps, question, runs[0]) - plain.worth(steps, question, runs[1]))
            self.assertEqual(gaps, sorted(set(gaps)))

    def test_plans_up_to_the_bounds(self):
        draw = random.Random(18)
        for steps in (LOST, FORK, WAITS, ROUNDS, DIAMOND):
            for counters in (COUNTERS[1], COUNTERS[3]):
                settings = plain.all_settings(counters)
                for lengths in ((6, 6, 6), (1, 6, 5), (6,), (8, 8, 8, 8)):
                    plan = tuple((length, draw.choice(settings)) for length in lengths)
                    question = draw.choice(QUESTIONS)
                    value = unsure(Program(steps), counters, plan, question)
                    self.assertTrue(plain_plans.shows_unsure(steps, counters, plan, question, value))
                    self.assertIs(shows_unsure(Program(steps), counters, plan, question, value), True)

    def test_nothing_that_was_passed_is_changed(self):
        for steps, counters, plan, question in self.samples[:80]:
            program, before = Program(steps), repr((counters, plan, question))
            told = unsure(program, counters, plan, question)
            kept = repr(told)
            self.assert_like(unsure(program, counters, plan, question), told)
            shows_unsure(program, counters, plan, question, told)
            self.assert_like(unsure(Program(steps), counters, plan, question), told)
            self.assertEqual(repr((counters, plan, question)), before)
            self.assertEqual(repr(told), kept)
            self.assertEqual(program.steps, steps)


class TestByHand(FitTest):
    def test_no_whole_run(self):
        for steps in (FULL, RING, STAYS):
            self.assert_like(unsure(Program(steps), NONE, ((1, (None,)),), X), ("none",))
            self.assertIs(shows_unsure(Program(steps), NONE, ((1, (None,)),), X, ("none",)), True)
        # The end is there, but no run comes to it.
        steps = (("a", (), ("a",)), ("b", (), ()))
        self.assert_like(unsure(Program(steps), NONE, ((1, ("x",)),), X), ("none",))

    def test_one_run_alone(self):
        for plan in (((1, (None,)),), ((6, ("x",)), (2, (None,)))):
            told = unsure(Program(ALONE), NONE, plan, X)
            self.assert_like(told[:4], ("most", 0, ("only",), ("only",)))

    def test_a_size_hides_what_a_counter_without_one_shows(self):
        steps = (("a", (), ("b", "c")), ("b", (("x", 1),), ("d",)), ("c", (("x", 4),), ("d",)), ("d", (), ()))
        for size, most in ((None, 0), (2, 0), (3, 3), (4, 0), (999, 0)):
            self.assert_like(unsure(Program(steps), ((("x",), size),), ((2, ("x",)),), X)[:2], ("most", most))

    def test_a_turn_cut_short_tells(self):
        # In the last turn, of one tick only, the difference must be 0 as well.
        steps = (("a", (), ("b", "c")), ("b", (("x", 1),), ()), ("c", (("x", 2),), ()))
        self.assert_like(unsure(Program(steps), NONE, ((6, ("x",)),), X)[:2], ("most", 0))
        self.assert_like(unsure(Program(steps), NONE, ((1, ("x",)), (6, (None,))), X)[:2], ("most", 1))

    def test_counts_of_a_turn_are_summed(self):
        # Two ways with the same sum in one turn of two ticks, but not tick by tick.
        steps = (("a", (), ("b", "c")), ("b", (("x", 1),), ("e",)), ("c", (("x", 2),), ("f",)), ("e", (("x", 2),), ()), ("f", (("x", 1),), ()))
        asked = (("step", "b", 7),)
        self.assert_like(unsure(Program(steps), NONE, ((3, ("x",)),), asked)[:2], ("most", 7))
        self.assert_like(unsure(Program(steps), NONE, ((1, (None,)), (2, ("x",))), asked)[:2], ("most", 7))
        self.assert_like(unsure(Program(steps), NONE, ((2, ("x",)), (1, ("x",))), asked)[:2], ("most", 0))
        self.assert_like(unsure(Program(steps), NONE, ((1, ("x",)),), asked)[:2], ("most", 0))

    def test_runs_that_end_at_other_times_are_not_alike(self):
        self.assert_like(unsure(Program(WAITS), NONE, ((1, (None,)),), (("step", "b", 1),))[:2], ("most", 0))

    def test_rings_without_an_end_do_not_count(self):
        # In LOST the ring over b and c goes on for ever, however far runs get apart in it.
        for plan in (((1, (None,)),), ((2, (None,)),), ((6, (None,)),)):
            told = unsure(Program(LOST), NONE, plan, X)
            self.assert_like(told[:2], ("most", 0))
            self.assertIn(None, [height for _, height in told[4]])

    def test_rings_that_grow_by_steps(self):
        told = unsure(Program(ROUNDS), NONE, ((2, ("x",)),), (("step", "c", -3),))
        self.assert_like(told[:2], ("most", 0))
        told = unsure(Program(ROUNDS), NONE, ((6, ("x",)),), (("step", "c", -3),))
        self.assert_like(told[:2], ("most", 0))
        told = unsure(Program(ROUNDS), ((("x",), 2),), ((6, ("x",)),), (("step", "c", -3),))
        self.assertEqual(told[0], "grows")

    def test_the_empty_question(self):
        for steps in (DIAMOND, ROUNDS, WAITS, FORK, TWO_WAYS):
            self.assert_like(unsure(Program(steps), NONE, ((3, (None,)),), ())[:2], ("most", 0))


class TestShowing(FitTest):
    def assert_judged(self, steps, counters, plan, question, value):
        before = repr(value)
        wanted = plain_plans.shows_unsure(steps, counters, plan, question, value)
        told = shows_unsure(Program(steps), counters, plan, question, value)
        self.assertIs(told, wanted, (steps, counters, plan, question, value))
        self.assertEqual(repr(value), before)
        return wanted

    def test_any_value(self):
        for steps, plan in ((TWO_WAYS, ((3, (None,)),)), (RING, ((3, (None,)),))):
            for value in ANY_VALUES + [("none", ()), ("none", None), ["none"], ("most",), ("grows",), ("grows", 1, 2, 3, 4), ("most", 1, 2, 3, 4)]:
                self.assertIs(self.assert_judged(steps, HIT, plan, MISS, value), False)
            self.assertIs(self.assert_judged(steps, HIT, plan, MISS, ("none",)), steps == RING)

    def test_most_with_one_part_otherwise(self):
        verdicts = []
        for plan, question in ((((2, ("hit",)), (1, (None,))), MISS), (((1, (None,)), (2, (None,))), MISS)):
            told = unsure(Program(TWO_WAYS), HIT, plan, question)
            for value in twists(told, ANY_VALUES[::4] + [True, 1, 0, False]):
                verdicts.append(self.assert_judged(TWO_WAYS, HIT, plan, question, value))
        self.assertGreater(verdicts.count(True), 30)
        self.assertGreater(verdicts.count(False), 2000)

    def test_grows_with_one_part_otherwise(self):
        verdicts = []
        for steps, counters, plan, question in ((ROUNDS, NONE, ((2, (None,)),), X), (ROUNDS, ((("x",), 2), (("y",), 5)), ((3, ("x", None)), (1, (None, "y"))), X)):
            told = unsure(Program(steps), counters, plan, question)
            self.assertEqual(told[0], "grows")
            for value in twists(told, ANY_VALUES[::2] + [told[3], told[4]]):
                verdicts.append(self.assert_judged(steps, counters, plan, question, value))
            for first, last in itertools.product(range(-2, len(told[1]) + 3), repeat=2):
                verdicts.append(self.assert_judged(steps, counters, plan, question, told[:3] + (first, last)))
            verdicts.append(self.assert_judged(steps, counters, plan, question, ("grows", told[2], told[1]) + told[3:]))
        self.assertGreater(verdicts.count(True), 2)
        self.assertGreater(verdicts.count(False), 1000)

    def test_rings_that_are_none(self):
        plan, one, other = ((2, (None,)),), ("a", "b", "a", "b", "a", "d"), ("a", "c", "a", "c", "a", "d")
        for runs, places, right in (((one, other), (1, 3), True), ((one, other), (1, 5), True), ((one, other), (2, 4), True), ((one, other), (3, 5), True),
                                    ((one, other), (1, 2), False), ((one, other), (1, 4), False), ((one, other), (0, 2), False),
                                    ((one, other), (3, 3), False), ((one, other), (3, 1), False), ((one, other), (4, 6), False),
                                    ((one, other), (-1, 1), False), ((one, other), (1, 99), False), ((one, other), (True, 3), False),
                                    ((other, one), (1, 3), False), ((one, one), (1, 3), False), ((one, other[:-1]), (1, 3), False),
                                    ((one[:-1], other[:-1]), (1, 3), False), ((one, other[:-2] + ("d",)), (1, 3), False),
                                    ((list(one), other), (1, 3), False), ((one, other), (1, "3"), False), ((one, other), (None, 3), False)):
            value = ("grows",) + runs + places
            self.assertIs(self.assert_judged(ROUNDS, NONE, plan, X, value), right, value)

    def test_rings_at_other_steps(self):
        # Without the part both are alike, but it does not come back to the step that it began behind.
        steps = (("a", (), ("b", "d", "e")), ("b", (("x", 1),), ("c",)), ("c", (), ("d",)), ("d", (), ()), ("e", (), ("c",)))
        one, other, plan = ("a", "b", "c", "d"), ("a", "e", "c", "d"), ((2, (None,)),)
        self.assertTrue(plain_plans.are_twins(steps, NONE, plan, one[:1] + one[3:], other[:1] + other[3:]))
        self.assertFalse(self.assert_judged(steps, NONE, plan, X, ("grows", one, other, 1, 3)))
        steps = (("a", (), ("b", "d")), ("b", (("x", 1),), ("a", "c")), ("c", (), ("d",)), ("d", (), ()))
        one, other = ("a", "b", "a", "d"), ("a", "b", "c", "d")
        for runs in ((one, other), (other, one)):
            for asked in (X, (("step", "a", 1),), (("step", "c", 1),)):
                self.assertFalse(self.assert_judged(steps, NONE, plan, asked, ("grows",) + runs + (1, 3)))

    def test_rings_without_which_the_runs_are_not_alike(self):
        steps = (("s", (), ("h", "l")), ("h", (("x", 1),), ("e", "l", "m")), ("l", (), ("e", "h", "m")), ("m", (), ("h", "l")), ("e", (), ()))
        plan, one, other = ((3, ("x",)), (1, ("x",))), tuple("shlmlhe"), tuple("slhmhle")
        self.assertTrue(plain_plans.are_twins(steps, NONE, plan, one, other))
        self.assertFalse(plain_plans.are_twins(steps, NONE, plan, one[:2] + one[6:], other[:2] + other[6:]))
        self.assertFalse(self.assert_judged(steps, NONE, plan, (("step", "l", 1),), ("grows", one, other, 2, 6)))
        loose = ((3, (None,)), (1, ("x",)))
        self.assertTrue(self.assert_judged(steps, NONE, loose, (("step", "l", 1),), ("grows", one, other, 2, 6)))
        self.assertFalse(self.assert_judged(steps, NONE, loose, (("step", "l", -1),), ("grows", one, other, 2, 6)))

    def test_tables_otherwise(self):
        verdicts, draw = [], random.Random(111)
        for steps, counters, plan, question in samples(draw, 160, 3):
            told = unsure(Program(steps), counters, plan, question)
            if told[0] != "most" or len(told[4]) > 60:
                continue
            rows = list(told[4])
            for place, (pair, height) in enumerate(rows):
                others = [[], [(pair, height)] * 2, [(pair, None)], [(pair, 0)], [(pair, GREAT)], [[pair, height]], [(pair,)]]
                others += [[(pair, height + more)] for more in (-1, 1) if height is not None]
                others.append([(pair[:3] + (tuple(many + 1 for many in pair[3]),), height)])
                for some in others[:1] + draw.sample(others[1:], 2):
                    value = told[:4] + (tuple(rows[:place] + some + rows[place + 1:]),)
                    verdicts.append(self.assert_judged(steps, counters, plan, question, value))
            draw.shuffle(rows)
            self.assertTrue(self.assert_judged(steps, counters, plan, question, told[:4] + (tuple(rows),)))
            self.assertFalse(self.assert_judged(steps, counters, plan, question, told[:4] + (rows,)))
            # With a value that is less, or more, the runs have another difference.
            for value in (told[1] - 1, told[1] + 1, bool(told[1])):
                self.assertFalse(self.assert_judged(steps, counters, plan, question, ("most", value) + told[2:]))
        self.assertGreater(verdicts.count(True), 80)
        self.assertGreater(verdicts.count(False), 800)

    def test_rows_to_which_no_two_runs_come(self):
        verdicts, draw = [], random.Random(112)
        for steps, counters, plan, question in samples(draw, 260, 3):
            told = unsure(Program(steps), counters, plan, question)
            if told[0] != "most" or len(told[4]) > 60:
                continue
            names, heights = [step[0] for step in steps], dict(told[4])
            place = draw.randrange(plain_plans.ticks_of(plan))
            setting = plain_plans.turn_of_tick(plan, place)[0]
            apart = tuple(0 if kind is None else draw.randrange(-4, 5) if size is None else draw.randrange(size) for kind, (_, size) in zip(setting, counters))
            odd = (place, draw.choice(names), draw.choice(names), apart)
            low = draw.choice((-50, -50, -50, None))
            for pair in self.all_behind(steps, counters, plan, odd):
                heights.setdefault(pair, low)
            if low is not None:
                # Heights that are low enough at first, raised until what follows is high enough.
                self.raise_heights(steps, counters, plan, question, heights)
            value = told[:4] + (tuple(heights.items()),)
            verdicts.append(self.assert_judged(steps, counters, plan, question, value))
            if odd not in dict(told[4]):
                first = next(iter(plain_plans.pairs_behind(steps, counters, plan, odd)), None)
                if first is not None and first != odd:
                    less = tuple(row for row in value[4] if row[0] != first)
                    verdicts.append(self.assert_judged(steps, counters, plan, question, told[:4] + (less,)))
        self.assertGreater(verdicts.count(True), 40)
        self.assertGreater(verdicts.count(False), 30)

    def all_behind(self, steps, counters, plan, pair):
        found, waiting = {}, [pair]
        while waiting:
            pair = waiting.pop()
            if pair not in found:
                found[pair] = True
                waiting.extend(plain_plans.pairs_behind(steps, counters, plan, pair))
        return found

    def raise_heights(self, steps, counters, plan, question, heights):
        for _ in range(30):
            for pair, height in list(heights.items()):
                for later in plain_plans.pairs_behind(steps, counters, plan, pair):
                    if heights[pair] is not None and heights[later] is not None:
                        heights[later] = max(heights[later], heights[pair] + plain_plans.apart_at(steps, question, later))

    def test_heights_that_are_higher_than_they_have_to_be(self):
        plan = ((3, (None,)),)
        told = unsure(Program(TWO_WAYS), HIT, plan, MISS)
        known = dict(told[4])
        higher = tuple((pair, 3 if height is not None else None) for pair, height in told[4])
        self.assertEqual(sorted(known.values()), [-3, 0, 0, 0, 3, 3])
        self.assertFalse(self.assert_judged(TWO_WAYS, HIT, plan, MISS, told[:4] + (higher,)))
        for pair, height in told[4]:
            for more, right in ((0, True), (-1, False)):
                value = told[:4] + (tuple((other, many + more if other == pair else many) for other, many in told[4]),)
                self.assertIs(self.assert_judged(TWO_WAYS, HIT, plan, MISS, value), right)
        odd = (1, "cold", "in", (0,))
        for height in (None, -GREAT, 0, GREAT):
            # Nothing follows both, and it is no end: any height may stand there.
            rows = told[4] + ((odd, height), ((2, "in", "out", (0,)), None))
            self.assertTrue(self.assert_judged(TWO_WAYS, HIT, plan, MISS, told[:4] + (rows[:-2] + rows[-1:],)))
            self.assert_judged(TWO_WAYS, HIT, plan, MISS, told[:4] + (rows,))

    def test_pair_states_by_their_form(self):
        counters, plan = ((("x",), None), (("y",), 4)), ((2, ("x", None)), (1, (None, "y")))
        told = unsure(Program(DIAMOND), counters, plan, X)
        pairs = (((0, "d", "c", (9, 0)), True), ((0, "d", "c", (-GREAT, 0)), True), ((1, "d", "c", (3, 0)), True), ((2, "d", "c", (0, 3)), True),
                 ((2, "d", "c", (0, 4)), False), ((2, "d", "c", (0, -1)), False), ((2, "d", "c", (1, 0)), False), ((0, "d", "c", (0, 1)), False),
                 ((3, "d", "c", (0, 0)), False), ((-1, "d", "c", (0, 0)), False), ((True, "d", "c", (0, 0)), False), ((0, "d", "e", (0, 0)), False),
                 ((0, "d", "c", (0,)), False), ((0, "d", "c", [0, 0]), False), ((0, "d", "c", (0, 0, 0)), False), ((0, "d", "c", (False, 0)), False),
                 ((0, "d", "c"), False), ((0, ["d"], "c", (0, 0)), False), ((0, "d", {}, (0, 0)), False), ([0, "d", "c", (0, 0)], False),
                 (("0", "d", "c", (0, 0)), False), ((None, "d", "c", (0, 0)), False), ((0, "d", "c", (None, 0)), False))
        for pair, right in pairs:
            for height in (0, None, -7):
                value = told[:4] + (told[4] + ((pair, height),),)
                self.assertIs(self.assert_judged(DIAMOND, counters, plan, X, value), right, pair)
            value = told[:4] + (told[4] + ((pair, "0"),),)
            self.assertIs(self.assert_judged(DIAMOND, counters, plan, X, value), False, pair)

    def test_an_end_needs_a_height_of_at_most_the_value(self):
        told = unsure(Program(TWO_WAYS), HIT, ((3, ("hit",)),), MISS)
        self.assert_like(told[:2], ("most", 0))
        ends = [((2, "out", "out", (0,)), True), ((2, "out", "out", (1,)), False)]
        for (pair, is_end), height in itertools.product(ends, (None, -1, 0, 1)):
            value = told[:4] + (told[4] + ((pair, height),),)
            right = not is_end or (height is not None and height <= 0)
            self.assertIs(self.assert_judged(TWO_WAYS, HIT, ((3, ("hit",)),), MISS, value), right)


class TestErrors(FitTest):
    PLAN = ((2, ("hit",)), (1, (None,)))
    CALLS = ((unsure, ()), (shows_unsure, (("none",),)))

    def test_no_counters(self):
        values = [value for value in ANY_VALUES + list(twists(HIT)) if not plain.is_counters(value)]
        for (function, rest), value in itertools.product(self.CALLS, values):
            self.assert_raises_just(BadCounters, value, function, Program(TWO_WAYS), value, self.PLAN, MISS, *rest)

    def test_no_plan(self):
        values = [value for value in ANY_VALUES + list(twists(self.PLAN)) if not plain.is_plan(HIT, value)]
        self.assertGreater(len(values), 500)
        for (function, rest), value in itertools.product(self.CALLS, values):
            self.assert_raises_just(BadPlan, value, function, Program(TWO_WAYS), HIT, value, MISS, *rest)

    def test_no_question(self):
        values = [value for value in ANY_VALUES + list(twists(MISS)) if not judged_question(value)]
        for (function, rest), value in itertools.product(self.CALLS, values):
            self.assert_raises_just(BadQuestion, value, function, Program(TWO_WAYS), HIT, self.PLAN, value, *rest)

    def test_the_first_one_that_applies(self):
        counters, plan, question = [HIT], [], (("kind", "x", 0),)
        for function, rest in self.CALLS:
            self.assert_raises_just(BadCounters, counters, function, Program(TWO_WAYS), counters, plan, question, *rest)
            self.assert_raises_just(BadPlan, plan, function, Program(TWO_WAYS), HIT, plan, question, *rest)
            self.assert_raises_just(BadQuestion, question, function, Program(FULL), HIT, self.PLAN, question, *rest)
            self.assert_raises_just(BadPlan, self.PLAN, function, Program(TWO_WAYS), TICK, self.PLAN, question, *rest)


if __name__ == "__main__":
    unittest.main()

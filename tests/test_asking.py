"""Section 13: the best way to choose by what was counted."""

import inspect
import random
import unittest

from fitruns import asking as module
from fitruns.asking import best, shows_best
from fitruns.errors import BadCounters, BadLengths, BadQuestion, TooMany
from fitruns.programs import Program
from tests import plain, plain_plans
from tests.samples import ALONE, DIAMOND, FORK, FULL, LOOPS, LOST, RING, ROUNDS, TWO_WAYS, WAITS, ringed_program, some_program
from tests.support import ANY_VALUES, FitTest, is_int, twists
from tests.test_questions import judged_question
from tests.test_twins import HIT, MISS, QUESTIONS, X

ALL = (DIAMOND, ROUNDS, TWO_WAYS, FORK, WAITS, LOST, LOOPS, FULL)
SMALL = (
    ((("x",), None),), ((("x", "y"), None),), ((("x", "y"), 2),), ((("x", "y", "z"), 3),), ((("x",), 2), (("y", "z"), None)),
    ((("x", "y"), None), (("x", "z"), 2)), ((("tick", "z"), 4),), ((("hit", "miss"), 2),),
)
MODULO = ((("hit",), 2),)
# Runs that come to one turn in many ways, so that what is told of one way must not be taken for another one.
HARD = (
    ((("a", (("y", 1),), ("a", "b", "d")), ("b", (("x", 2),), ("b", "c")), ("c", (), ("a", "c", "d")), ("d", (), ())),
     ((("x",), None),), (2, 2, 2), (("kind", "z", -1), ("step", "a", 2), ("step", "p", 2), ("step", "q", 1))),
    ((("a", (), ("b", "c", "e")), ("b", (("y", 1),), ("b", "e")), ("c", (), ("a", "b")), ("d", (), ("d", "e")), ("e", (), ())),
     ((("x", "y"), None),), (2, 1, 1), (("kind", "hit", -1), ("kind", "x", 2), ("step", "b", 3), ("step", "p", -7))),
    ((("a", (), ("b", "c", "d")), ("b", (), ("a", "c", "d")), ("c", (("y", 1),), ("a", "b")), ("d", (), ())),
     ((("x", "y"), None),), (2, 2, 2), (("kind", "x", -7), ("step", "a", 2))),
    ((("a", (), ("a", "c", "d")), ("b", (("y", 2),), ("c", "d")), ("c", (), ("b", "c")), ("d", (), ())),
     ((("x", "y", "z"), 3),), (2, 2, 2), (("kind", "hit", -2), ("kind", "z", -1), ("step", "b", -2), ("step", "c", 1))),
    ((("a", (), ("a", "c")), ("b", (), ("a", "c")), ("c", (("x", 1),), ("a", "b", "d")), ("d", (), ())),
     ((("x", "y"), None),), (2, 2, 1), (("kind", "y", 3), ("step", "a", 2), ("step", "d", -2))),
)
HOT, COLD = ("in", "hot", "out"), ("in", "cold", "out")


def samples(draw, many):
    """Yield (steps, counters, lengths, question), drawn by chance; mostly with a whole run of this length."""
    for number in range(many):
        steps = ALL[number // 2 % len(ALL)] if number % 2 else some_program(draw) if number % 4 else ringed_program(draw)
        lengths = sorted({len(run) for run in plain_plans.whole_runs(steps, 7)}) or [3]
        ticks = draw.choice(lengths if draw.random() < 0.9 else [1, 2, 3, 4])
        parts = [ticks]
        while parts[0] > 1 and len(parts) < 3 and (draw.random() < 0.6 or parts[0] > 6):
            first = draw.randrange(max(1, parts[0] - 6), parts[0])
            parts[:1] = [first, parts[0] - first]
        yield steps, draw.choice(SMALL), tuple(parts), draw.choice(QUESTIONS)


class TestExamples(FitTest):
    def test_the_first_one(self):
        program = Program((('in', (), ('cold', 'hot')), ('hot', (('miss', 3),), ('out',)), ('cold', (('hit', 2),), ('out',)), ('out', (), ())))
        asked = (('kind', 'miss', 1),)
        self.assert_like(
            best(program, ((('hit',), 2),), (3,), asked),
            (3, ('count', ('hit',), (((0,), ('tell', 0, 3)),)), ('whatever', ((('hit',), (0,), ('twins', ('in', 'hot', 'out'), ('in', 'cold', 'out'))),))))

    def test_the_second_one(self):
        program = Program((('in', (), ('cold', 'hot')), ('hot', (('miss', 3),), ('out',)), ('cold', (('hit', 2),), ('out',)), ('out', (), ())))
        asked = (('kind', 'miss', 1),)
        self.assert_like([best(program, ((('hit', 'miss'), 2),), (3,), asked)[0], best(program, ((('hit',), 2),), (2,), asked)], [0, None])


class TestInterface(FitTest):
    def test_the_functions_are_defined_in_their_file(self):
        for name in ("best", "shows_best"):
            function = getattr(module, name)
            self.assertTrue(inspect.isfunction(function))
            self.assertEqual(function.__module__, "fitruns.asking")

    def test_arguments_by_name(self):
        named = {"question": MISS, "lengths": (3,), "counters": MODULO, "program": Program(TWO_WAYS)}
        told = best(**named)
        self.assertEqual(told[0], 3)
        self.assertIs(shows_best(value=told, **named), True)
        self.assertIs(shows_best(value=None, **named), False)


class TestAgainstAListing(FitTest):
    """No way to choose settings holds the difference below what best tells."""

    def setUp(self):
        self.samples = list(samples(random.Random(13), 700)) + list(HARD)

    def test_the_value_and_both_trees(self):
        values, turns = [], []
        for sample in self.samples:
            steps, counters, lengths, question = sample
            runs = plain_plans.runs_of_length(steps, lengths)
            told = best(Program(steps), *sample[1:])
            if not runs:
                self.assertIsNone(told, sample)
                values.append(None)
                continue
            self.assertEqual((type(told), len(told)), (tuple, 3))
            self.assert_like(told[0], plain_plans.least_left(steps, counters, lengths, question, 0, runs), sample)
            self.assertTrue(plain_plans.shows_best(*sample, told), (sample, told))
            self.assertIs(shows_best(Program(steps), *sample[1:], told), True)
            values.append(told[0])
            turns.append(len(lengths))
        self.assertGreater(values.count(None), 20)
        self.assertGreater(values.count(0), 100)
        self.assertGreater(len([value for value in values if value]), 25)
        self.assertTrue(all(turns.count(many) > 40 for many in (1, 2, 3)))

    def test_nothing_that_was_passed_is_changed(self):
        for steps, *rest in self.samples[:60]:
            program, before = Program(steps), repr(rest)
            told = best(program, *rest)
            kept = repr(told)
            self.assert_like(best(program, *rest), told)
            self.assert_like(best(Program(steps), *rest), told)
            shows_best(program, *rest, told)
            self.assertEqual((repr(rest), repr(told)), (before, kept))


class TestByHand(FitTest):
    def test_what_was_counted_ahead_helps(self):
        # The first turn tells which of two kinds to count in the second one.
        steps = (("a", (), ("b", "c")), ("b", (("k", 1),), ("d", "e")), ("c", (), ("f", "g")), ("d", (("x", 1),), ()), ("e", (), ()),
                 ("f", (("y", 1),), ()), ("g", (), ()))
        asked = (("step", "d", 1), ("step", "f", 1))
        counters = ((("k", "x", "y"), None),)
        told = best(Program(steps), counters, (2, 1), asked)
        self.assert_like(told[:2], (0, ("count", ("k",), (
            ((0,), ("count", ("y",), (((0,), ("tell", 0, 0)), ((1,), ("tell", 1, 1))))),
            ((1,), ("count", ("x",), (((0,), ("tell", 0, 0)), ((1,), ("tell", 1, 1)))))))))
        self.assertEqual(best(Program(steps), ((("x", "y"), None),), (2, 1), asked)[0], 1)

    def test_one_run_alone(self):
        told = best(Program(ALONE), X_ONLY, (1,), X)
        self.assert_like(told, (0, ("count", ("x",), (((2,), ("tell", 2, 2)),)), ("whatever", ((("x",), (2,), ("twins", ("only",), ("only",))),))))

    def test_only_runs_that_end_with_the_last_tick(self):
        # Of the runs of WAITS with four steps one alone is whole; what the others count has no row.
        told = best(Program(WAITS), X_ONLY, (2, 2), X)
        self.assert_like(told[1], ("count", ("x",), (((3,), ("count", ("x",), (((0,), ("tell", 3, 3)),))),)))
        for lengths in ((1,), (2,), (1, 1)):
            self.assertIsNone(best(Program(WAITS), X_ONLY, lengths, X))

    def test_twins_that_are_not_whole(self):
        # Runs of WAITS with four steps that go on behind them have the same counts as the one that ends there.
        counters = ((("k",), None),)
        self.assert_like(best(Program(WAITS), counters, (4,), X), (0, ("count", ("k",), (((0,), ("tell", 3, 3)),)), ("whatever", (
            (("k",), (0,), ("twins", ("a", "b", "c", "d"), ("a", "b", "c", "d"))),))))
        steps = (("a", (), ("b", "c")), ("b", (("x", 2),), ("d",)), ("c", (), ("d", "e")), ("d", (), ()), ("e", (("x", 5),), ("d",)))
        told = best(Program(steps), counters, (3,), X)
        self.assertEqual(told[0], 2)
        for value in (told, (9,) + told[1:]):
            for one, right in ((("a", "b", "d"), True), (("a", "c", "e"), False), (("a", "c", "e", "d"), False), (("b", "d"), False)):
                other = ("whatever", ((("k",), (0,), ("twins", one, ("a", "c", "d"))),))
                wanted = plain_plans.shows_best(steps, counters, (3,), X, value[:2] + (other,))
                self.assertIs(shows_best(Program(steps), counters, (3,), X, value[:2] + (other,)), wanted)
                self.assertIs(wanted, right and value[0] == 2)

    def test_no_run(self):
        for steps in (FULL, RING):
            for value in ANY_VALUES + [(0, (), ()), None]:
                self.assertIs(shows_best(Program(steps), X_ONLY, (2,), X, value), False)
            self.assertIsNone(best(Program(steps), X_ONLY, (2, 6, 1), X))

    def test_eighteen_ticks(self):
        counters = ((("x", "y"), None),)
        for steps, ticks in ((ROUNDS, (6, 6, 6)), (WAITS, (6, 6, 6))):
            told = best(Program(steps), counters, ticks, X)
            self.assertEqual(told[0], 0)
            self.assertIs(shows_best(Program(steps), counters, ticks, X, told), True)
        told = best(Program(ROUNDS), ((("x",), 3),), (6, 6, 6), X)
        self.assertEqual(told[0], 6)
        self.assertTrue(plain_plans.shows_best(ROUNDS, ((("x",), 3),), (6, 6, 6), X, told))

    def test_the_empty_question(self):
        self.assertEqual(best(Program(FORK), X_ONLY, (3,), ())[0], 0)


X_ONLY = ((("x",), None),)


class TestShowing(FitTest):
    def assert_judged(self, sample, value):
        before = repr(value)
        wanted = plain_plans.shows_best(*sample, value)
        self.assertIs(shows_best(Program(sample[0]), *sample[1:], value), wanted, (sample, value))
        self.assertEqual(repr(value), before)
        return wanted

    def test_any_value(self):
        sample = (TWO_WAYS, MODULO, (3,), MISS)
        told = best(Program(TWO_WAYS), *sample[1:])
        for value in ANY_VALUES:
            self.assertFalse(self.assert_judged(sample, value))
            for place in range(3):
                self.assertFalse(self.assert_judged(sample, told[:place] + (value,) + told[place + 1:]) and value != told[place])

    def test_with_one_part_otherwise(self):
        verdicts = []
        odd = ANY_VALUES[::6] + [True, 1, 0, False, 3]
        for sample in ((TWO_WAYS, MODULO, (3,), MISS), (TWO_WAYS, HIT, (2, 1), MISS), (DIAMOND, ((("x",), 2),), (3,), (("kind", "y", 2),))):
            told = best(Program(sample[0]), *sample[1:])
            for value in twists(told, odd):
                verdicts.append(self.assert_judged(sample, value))
        self.assertGreater(verdicts.count(True), 5)
        self.assertGreater(verdicts.count(False), 2000)

    def some_tree(self, draw, sample, turn, runs):
        """A tree that chooses by chance; all that it tells is right."""
        steps, counters, lengths, question = sample
        worths = [plain.worth(steps, question, run) for run in runs]
        if turn == len(lengths):
            return ("tell", min(worths), max(worths)), max(worths) - min(worths)
        setting = draw.choice(plain_plans.busy_settings(counters))
        told = plain_plans.by_counts(steps, counters, lengths, turn, setting, runs)
        parts = [(counts, self.some_tree(draw, sample, turn + 1, told[counts])) for counts in told]
        return ("count", setting, tuple((counts, tree) for counts, (tree, _) in parts)), max(most for _, (_, most) in parts)

    def some_other(self, draw, sample, turn, runs):
        """An other tree with counts and runs by chance, and the least difference of its twins."""
        steps, counters, lengths, question = sample
        if turn == len(lengths):
            one, other = draw.choice(runs), draw.choice(runs)
            return ("twins", one, other), plain.worth(steps, question, one) - plain.worth(steps, question, other)
        rows, least = [], []
        for setting in plain_plans.busy_settings(counters):
            told = plain_plans.by_counts(steps, counters, lengths, turn, setting, runs)
            counts = draw.choice(list(told))
            tree, many = self.some_other(draw, sample, turn + 1, told[counts])
            rows.append((setting, counts, tree))
            least.append(many)
        return ("whatever", tuple(rows)), min(least)

    def test_trees_drawn_by_chance(self):
        draw = random.Random(131)
        verdicts = []
        for sample in samples(draw, 260):
            runs = plain_plans.runs_of_length(sample[0], sample[2])
            if not runs:
                continue
            told = best(Program(sample[0]), *sample[1:])
            for _ in range(4):
                tree, most = self.some_tree(draw, sample, 0, runs)
                self.assertIs(self.assert_judged(sample, (told[0], tree, told[2])), most <= told[0])
                verdicts.append((most <= told[0], tree != told[1]))
                other, fewest = self.some_other(draw, sample, 0, runs)
                self.assertIs(self.assert_judged(sample, (told[0], told[1], other)), fewest >= told[0])
                verdicts.append((fewest >= told[0], other != told[2]))
        self.assertGreater(verdicts.count((True, True)), 100)
        self.assertGreater(verdicts.count((False, True)), 80)

    def test_another_value(self):
        for sample in samples(random.Random(132), 60):
            told = best(Program(sample[0]), *sample[1:])
            if told is not None:
                for value in (told[0] - 1, told[0] + 1, -told[0] - 1, str(told[0]), bool(told[0]), None):
                    self.assertFalse(self.assert_judged(sample, (value,) + told[1:]))

    def test_bools_and_lists(self):
        sample = (TWO_WAYS, MODULO, (3,), MISS)
        value, tree, other = best(Program(TWO_WAYS), *sample[1:])
        for wrong in (("count", ("hit",), (((False,), ("tell", 0, 3)),)), ("count", ("hit",), (((0,), ("tell", False, 3)),)),
                      ("count", ("hit",), [((0,), ("tell", 0, 3))]), ("count", ["hit"], (((0,), ("tell", 0, 3)),)), ("count", ("hit",), (((0,), ["tell", 0, 3]),)),
                      ("count", ("hit",), ([(0,), ("tell", 0, 3)],)), ("count", ("miss",), (((0,), ("tell", 0, 3)),)), ("count", (None,), (((None,), ("tell", 0, 3)),)),
                      ("count", ("hit",), (((0,), ("tell", 0, 3)), ((1,), ("tell", 0, 0)))), ("count", ("hit",), ()), ("tell", 0, 3), ("tell", 0, 0)):
            self.assertFalse(self.assert_judged(sample, (value, wrong, other)))
        for wrong in (("whatever", ((("hit",), (False,), ("twins", HOT, COLD)),)), ("whatever", ((("hit",), (0,), ("twins", list(HOT), COLD)),)),
                      ("whatever", [(("hit",), (0,), ("twins", HOT, COLD))]), ("whatever", ()), ("twins", HOT, COLD),
                      ("whatever", ((("hit",), (1,), ("twins", HOT, COLD)),)), ("whatever", ((("hit",), (0,), ("twins", COLD, HOT)),)),
                      ("whatever", ((("hit",), (0,), ("twins", HOT, HOT)),)), ("whatever", ((("hit",), (0,), ("twins", HOT[:2], COLD)),)),
                      ("whatever", ((("hit",), (0,), ("twins", HOT)),)), ("whatever", ((("hit",), (None,), ("twins", HOT, COLD)),)),
                      ("whatever", ((("hit",), (0,), ("twins", HOT, COLD)),) * 2), ("whatever", (((None,), (None,), ("twins", HOT, COLD)),))):
            self.assertFalse(self.assert_judged(sample, (value, tree, wrong)))


class TestErrors(FitTest):
    RIGHT = (HIT, (2, 1), MISS)
    CALLS = ((best, ()), (shows_best, ((0, (), ()),)))

    def assert_refused(self, place, kind, values, is_right):
        refused = 0
        for value in values:
            if is_right(value):
                continue
            refused += 1
            args = self.RIGHT[:place] + (value,) + self.RIGHT[place + 1:]
            for function, rest in self.CALLS:
                for steps in (TWO_WAYS, FULL):
                    self.assert_raises_just(kind, value, function, Program(steps), *args, *rest)
        self.assertGreater(refused, 60)

    def test_no_counters(self):
        self.assert_refused(0, BadCounters, ANY_VALUES + list(twists(HIT)), plain.is_counters)

    def test_no_lengths(self):
        values = ANY_VALUES + list(twists((2, 1))) + [(), (0,), (7,), (1, 2, 3, 4), (1, 7), (6, 0), (-1,), (True,), ("1",), [1, 2]]
        self.assert_refused(1, BadLengths, values, plain_plans.is_lengths)

    def test_no_question(self):
        self.assert_refused(2, BadQuestion, ANY_VALUES + list(twists(MISS)), judged_question)

    def test_lengths_at_the_edges(self):
        for lengths in ((1,), (6,), (1, 6), (6, 6, 6), (1, 1, 1)):
            told = best(Program(WAITS), X_ONLY, lengths, X)
            self.assertEqual(told is None, sum(lengths) < 3)
            self.assertTrue(told is None or is_int(told[0]))

    def test_too_many(self):
        kinds = tuple("abcdefghijklmnopqrstuvwxyz")
        more = tuple(first + other for first in kinds for other in kinds[:10])
        for counters, lengths, number in ((((more[:256], 2),), (3,), None), (((more[:257], 2),), (3,), 257), (((kinds[:16], None), (kinds[:16], 5)), (3,), None), (((kinds[:16], None), (kinds[:17], 5)), (3,), 272),
                                          (((kinds[:16], None),), (1, 2), None), (((kinds[:17], None),), (1, 2), 289), (((kinds[:6], None),), (1, 1, 1), None),
                                          (((kinds[:7], None),), (1, 1, 1), 343), (((kinds, None), (kinds, None)), (6, 6, 6), 676 ** 3), (((kinds[:1], None),), (6, 6, 6), None)):
            for steps in (TWO_WAYS, FULL, DIAMOND):
                for function, rest in self.CALLS:
                    error = self.caught(function, Program(steps), counters, lengths, (), *rest)
                    if number is None:
                        self.assertIsNone(error)
                    else:
                        self.assertIs(type(error), TooMany)
                        self.assert_like(error.number, number)
                        self.assertIsNone(error.__context__)
            if number is not None:
                wrong = (("kind", "x", 0),)
                self.assert_raises_just(BadQuestion, wrong, best, Program(TWO_WAYS), counters, lengths, wrong)

    def test_the_first_one_that_applies(self):
        wrong = ([HIT], [3], [MISS])
        for place, kind in enumerate((BadCounters, BadLengths, BadQuestion)):
            args = self.RIGHT[:place] + wrong[place:]
            for function, rest in self.CALLS:
                self.assert_raises_just(kind, wrong[place], function, Program(TWO_WAYS), *args, *rest)


if __name__ == "__main__":
    unittest.main()

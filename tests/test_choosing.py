"""Section 12: the cheapest plan that leaves little enough unsure."""

import inspect
import random
import unittest

from fitruns import choosing as module
from fitruns.choosing import cheapest, shows_cheapest
from fitruns.errors import BadCount, BadCounters, BadLengths, BadPrices, BadQuestion, TooMany
from fitruns.programs import Program
from fitruns.twins import unsure
from tests import plain, plain_plans
from tests.samples import ALONE, DIAMOND, FORK, FULL, LOST, RING, ROUNDS, TWO_WAYS, WAITS, some_program
from tests.support import ANY_VALUES, FitTest, is_int, twists
from tests.test_questions import judged_question
from tests.test_twins import HIT, MISS, QUESTIONS, X, longest_way

PRICES = (("hit", 1), ("miss", 2))
SMALL = ((((("x",), None),), ((1,), (2,), (3,), (6,), (1, 2), (2, 3), (4, 1), (1, 1, 1), (2, 1, 3))),
         (((("x", "y"), None),), ((1,), (3,), (2, 2), (1, 4), (1, 2, 1))),
         (((("x", "y", "z"), 3),), ((2,), (3, 2))),
         (((("tick", "z"), 2),), ((1,), (2,), (1, 1), (2, 4))),
         (((("x",), 2), (("y", "z"), None)), ((2,), (3,), (1, 2))),
         (((("x", "z"), None), (("x", "y"), 2)), ((2,), (4,), (1, 3))))
ALL = (DIAMOND, FULL, ROUNDS, ALONE, TWO_WAYS, FORK, WAITS, LOST)


def samples(draw, many):
    """Yield (steps, counters, lengths, prices, question, most), drawn by chance."""
    for number in range(many):
        steps = ALL[number // 2 % len(ALL)] if number % 2 else some_program(draw)
        counters, lengths = draw.choice(SMALL)
        prices = tuple((kind, draw.choice((0, 1, 1, 2, 5, 99))) for kind in plain_plans.kinds_of(counters))
        yield steps, counters, draw.choice(lengths), prices, draw.choice(QUESTIONS), draw.choice((0, 0, 0, 1, 2, 3, 5))


class Judge:
    """Which plans are good: by a listing where there is no ring, else by what unsure tells and its table shows."""

    def __init__(self, steps, counters, question, most):
        self.asked = (steps, counters, question, most)
        self.known = {}

    def __call__(self, plan):
        if plan not in self.known:
            self.known[plan] = self.is_good(plan)
        return self.known[plan]

    def is_good(self, plan):
        steps, counters, question, most = self.asked
        longest = longest_way(steps)
        if longest is not None:
            return plain_plans.most_apart(steps, counters, plan, question, plain_plans.whole_runs(steps, longest)) <= most
        told = unsure(Program(steps), counters, plan, question)
        assert plain_plans.shows_unsure(steps, counters, plan, question, told)
        return told[0] == "none" or (told[0] == "most" and told[1] <= most)


class TestExamples(FitTest):
    def test_the_example(self):
        program = Program((('in', (), ('cold', 'hot')), ('hot', (('miss', 3),), ('out',)), ('cold', (('hit', 2),), ('out',)), ('out', (), ())))
        counters = ((('hit', 'miss'), None),)
        prices, asked = (('hit', 1), ('miss', 2)), (('kind', 'miss', 1),)
        self.assert_like(
            [cheapest(program, counters, (3,), prices, asked, 0)[:3], cheapest(program, counters, (3,), prices, asked, 3)[:3]],
            [('plan', 1, ((3, ('hit',)),)), ('plan', 0, ((3, (None,)),))])


class TestInterface(FitTest):
    def test_the_functions_are_defined_in_their_file(self):
        for name in ("cheapest", "shows_cheapest"):
            function = getattr(module, name)
            self.assertTrue(inspect.isfunction(function))
            self.assertEqual(function.__module__, "fitruns.choosing")

    def test_arguments_by_name(self):
        named = {"most": 0, "question": MISS, "prices": PRICES, "lengths": (3,), "counters": HIT, "program": Program(TWO_WAYS)}
        told = cheapest(**named)
        self.assert_like(told[:3], ("plan", 1, ((3, ("hit",)),)))
        self.assertIs(shows_cheapest(value=told, **named), True)
        self.assertIs(shows_cheapest(value=None, **named), False)


class TestAgainstALook(FitTest):
    """No plan that comes ahead of the cheapest one is good enough."""

    def setUp(self):
        self.samples = list(samples(random.Random(12), 500))

    def test_the_cheapest_and_least_good_plan(self):
        found = {"plan": 0, "none": 0}
        free = 0
        for sample in self.samples:
            steps, counters, lengths, prices, question, most = sample
            is_good = Judge(steps, counters, question, most)
            plans = sorted(plain_plans.all_plans(counters, lengths), key=lambda plan: plain_plans.plan_rank(prices, plan))
            good = [plan for plan in plans if is_good(plan)]
            told = cheapest(Program(steps), *sample[1:])
            found[told[0]] += 1
            if good:
                self.assertEqual(len(told), 4)
                self.assert_like(told[:3], ("plan", plain_plans.cost(prices, good[0]), good[0]), sample)
                free += all(kind is None for _, setting in good[0] for kind in setting)
            else:
                self.assertEqual((len(told), told[0]), (2, "none"), sample)
            self.assertTrue(plain_plans.shows_cheapest(*sample, told, is_good), (sample, told))
            self.assertIs(shows_cheapest(Program(steps), *sample[1:], told), True)
        self.assertGreater(found["none"], 12)
        self.assertGreater(found["plan"] - free, 30)
        self.assertGreater(free, 60)

    def test_nothing_that_was_passed_is_changed(self):
        for steps, *rest in self.samples[:40]:
            program, before = Program(steps), repr(rest)
            told = cheapest(program, *rest)
            kept = repr(told)
            self.assert_like(cheapest(program, *rest), told)
            self.assert_like(cheapest(Program(steps), *rest), told)
            shows_cheapest(program, *rest, told)
            self.assertEqual((repr(rest), repr(told)), (before, kept))

    def test_256_plans(self):
        counters = ((("x", "y", "z"), None), (("x", "y", "z"), 2))
        for steps, question, most in ((WAITS, X, 0), (FORK, QUESTIONS[2], 1), (ROUNDS, (("step", "b", 1), ("step", "c", -1)), 2)):
            args = (counters, (3, 2), (("x", 1), ("y", 0), ("z", 2)), question, most)
            self.assertEqual(len(plain_plans.all_plans(counters, (3, 2))), 256)
            told = cheapest(Program(steps), *args)
            is_good = Judge(steps, counters, question, most)
            self.assertTrue(plain_plans.shows_cheapest(steps, *args, told, is_good))
            self.assertIs(shows_cheapest(Program(steps), *args, told), True)


class TestByHand(FitTest):
    def test_without_a_whole_run_all_plans_are_good(self):
        for steps in (FULL, RING):
            told = cheapest(Program(steps), HIT, (1, 6, 2), PRICES, MISS, 0)
            self.assert_like(told, ("plan", 0, ((1, (None,)), (6, (None,)), (2, (None,))), ()))
            self.assertIs(shows_cheapest(Program(steps), HIT, (1, 6, 2), PRICES, MISS, 0, told), True)

    def test_prices_of_nothing(self):
        # Of the plans that cost nothing the least one that is good.
        for prices, wanted in (((("hit", 0), ("miss", 0)), (0, "hit")), ((("hit", 5), ("miss", 0)), (0, "miss")), ((("hit", 99), ("miss", 99)), (99, "hit")),
                               ((("hit", 99), ("miss", 98)), (98, "miss"))):
            told = cheapest(Program(TWO_WAYS), HIT, (3,), prices, MISS, 0)
            self.assert_like(told[:3], ("plan", wanted[0], ((3, (wanted[1],)),)))

    def test_the_place_of_a_counter_in_the_plan(self):
        # What differs is counted in the second tick; a turn that ends there is enough.
        told = cheapest(Program(TWO_WAYS), HIT, (1, 2), PRICES, MISS, 0)
        self.assert_like(told[:3], ("plan", 1, ((1, (None,)), (2, ("hit",)))))
        told = cheapest(Program(TWO_WAYS), HIT, (2, 1), PRICES, MISS, 0)
        self.assert_like(told[:3], ("plan", 1, ((2, ("hit",)), (1, (None,)))))

    def test_the_price_counts_for_each_turn_and_counter(self):
        steps = (("a", (("x", 1),), ("b", "c")), ("b", (("x", 1),), ("d", "e")), ("c", (("y", 1),), ("d", "e")), ("d", (("x", 1),), ()), ("e", (), ()))
        told = cheapest(Program(steps), NONE_OR_X, (2, 2), (("x", 7),), X, 0)
        self.assert_like(told[:3], ("plan", 14, ((2, ("x",)), (2, ("x",)))))
        told = cheapest(Program(steps), NONE_OR_X, (2, 2), (("x", 7),), X, 1)
        self.assert_like(told[:3], ("plan", 7, ((2, (None,)), (2, ("x",)))))
        told = cheapest(Program(steps), NONE_OR_X * 2, (2, 2), (("x", 7),), X, 0)
        self.assert_like(told[:3], ("plan", 14, ((2, (None, "x")), (2, (None, "x")))))

    def test_none_is_good(self):
        told = cheapest(Program(TWO_WAYS), ((("tick",), None),), (3,), (("tick", 1),), MISS, 2)
        self.assertEqual(told[0], "none")
        self.assertEqual({row[0] for row in told[1]}, {((3, (None,)),), ((3, ("tick",)),)})
        told = cheapest(Program(TWO_WAYS), ((("tick",), None),), (3,), (("tick", 1),), MISS, 3)
        self.assert_like(told, ("plan", 0, ((3, (None,)),), ()))


NONE_OR_X = ((("x",), None),)


class TestShowing(FitTest):
    def setUp(self):
        self.judges = {}

    def assert_judged(self, sample, value):
        steps, counters, lengths, prices, question, most = sample
        before = repr(value)
        is_good = self.judges.setdefault(sample, Judge(steps, counters, question, most))
        wanted = plain_plans.shows_cheapest(*sample, value, is_good)
        self.assertIs(shows_cheapest(Program(steps), *sample[1:], value), wanted, (sample, value))
        self.assertEqual(repr(value), before)
        return wanted

    def test_any_value(self):
        sample = (TWO_WAYS, HIT, (3,), PRICES, MISS, 0)
        for value in ANY_VALUES + [("none", ()), ("plan", 0, ((3, (None,)),), ()), ("plan",), ["none", ()], ("none", []), ("plan", 1, ((3, ("hit",)),), [])]:
            self.assertFalse(self.assert_judged(sample, value))

    def test_with_one_part_otherwise(self):
        verdicts = []
        for sample in ((TWO_WAYS, HIT, (3,), PRICES, MISS, 0), (TWO_WAYS, HIT, (3,), PRICES, MISS, 3), (TWO_WAYS, ((("tick",), None),), (3,), (("tick", 1),), MISS, 0),
                       (ROUNDS, ((("x",), 2),), (2,), (("x", 1),), X, 0)):
            told = cheapest(Program(sample[0]), *sample[1:])
            for value in twists(told, ANY_VALUES[::5] + [True, 1, 0, False, 3]):
                verdicts.append(self.assert_judged(sample, value))
        self.assertGreater(verdicts.count(True), 10)
        self.assertGreater(verdicts.count(False), 2000)

    def test_rows_in_any_order_and_more_than_are_needed(self):
        draw = random.Random(121)
        needed = spare = 0
        for sample in samples(draw, 220):
            told = cheapest(Program(sample[0]), *sample[1:])
            rows = list(told[-1])
            draw.shuffle(rows)
            self.assertTrue(self.assert_judged(sample, told[:-1] + (tuple(rows),)))
            self.assertTrue(self.assert_judged(sample, told[:-1] + (tuple(rows + rows[:1]),)))
            for place in range(len(rows)):
                less = self.assert_judged(sample, told[:-1] + (tuple(rows[:place] + rows[place + 1:]),))
                needed += not less
                spare += less
        self.assertGreater(needed, 60)
        self.assertGreater(spare, 60)

    def test_the_finest_rows_alone(self):
        draw = random.Random(122)
        for sample in samples(draw, 60):
            told = cheapest(Program(sample[0]), *sample[1:])
            rows = told[-1]
            finest = [row for row in rows if not any(row[0] != other[0] and plain_plans.covers(other[0], row[0]) for other in rows)]
            self.assertTrue(self.assert_judged(sample, told[:-1] + (tuple(finest),)))

    def test_another_plan_or_price(self):
        draw = random.Random(123)
        verdicts = []
        for sample in samples(draw, 70):
            told = cheapest(Program(sample[0]), *sample[1:])
            if told[0] == "none":
                plan = draw.choice(plain_plans.all_plans(sample[1], sample[2]))
                self.assertFalse(self.assert_judged(sample, ("plan", plain_plans.cost(sample[3], plan), plan, told[1])))
                continue
            self.assertFalse(self.assert_judged(sample, ("plan", told[1] + 1) + told[2:]))
            self.assertFalse(self.assert_judged(sample, ("none", told[3])))
            for plan in draw.sample(plain_plans.all_plans(sample[1], sample[2]), 2):
                verdicts.append(self.assert_judged(sample, ("plan", plain_plans.cost(sample[3], plan), plan, told[3])))
        self.assertGreater(verdicts.count(False), 50)

    def test_runs_that_do_not_differ_enough(self):
        sample = (TWO_WAYS, ((("tick",), None),), (3,), (("tick", 1),), MISS, 2)
        plan, hot, cold = ((3, ("tick",)),), ("in", "hot", "out"), ("in", "cold", "out")
        for row, right in (((plan, hot, cold), True), ((plan, cold, hot), False), ((plan, hot, hot), False), ((plan, hot, cold, 1, 2), False),
                           ((plan, hot, cold[:2]), False), ((plan, hot), False), ((plan, hot, cold, None), False), ([plan, hot, cold], False),
                           ((((3, (None,)),), hot, cold), False), ((((2, ("tick",)),), hot, cold), False), ((plan + plan, hot, cold), False)):
            self.assertIs(self.assert_judged(sample, ("none", (row,))), right, row)
        self.assertFalse(self.assert_judged(sample[:5] + (3,), ("none", ((plan, hot, cold),))))
        both = ((plan, hot, cold), (((3, (None,)),), hot, cold))
        self.assertTrue(self.assert_judged(sample, ("none", both)))
        self.assertTrue(self.assert_judged(sample, ("none", both[::-1])))

    def test_lengths_are_no_bools(self):
        sample = (("a", (), ("b", "c")), ("b", (("x", 1),), ()), ("c", (), ())), NONE_OR_X, (1,), (("x", 1),), X, 0
        told = cheapest(Program(sample[0]), *sample[1:])
        self.assert_like(told, ("plan", 1, ((1, ("x",)),), ((((1, (None,)),), ("a", "b"), ("a", "c")),)))
        self.assertFalse(self.assert_judged(sample, told[:2] + (((True, ("x",)),), told[3])))
        self.assertFalse(self.assert_judged(sample, told[:3] + (((((True, (None,)),),) + told[3][0][1:],),)))
        self.assertFalse(self.assert_judged(sample, ("plan", True) + told[2:]))

    def test_rings_in_rows(self):
        sample = (ROUNDS, NONE_OR_X, (2,), (("x", 1),), X, 5)
        told = cheapest(Program(sample[0]), *sample[1:])
        self.assert_like(told[:3], ("plan", 1, ((2, ("x",)),)))
        plan = ((2, (None,)),)
        many, few = ("a", "b") * 6 + ("a", "d"), ("a", "c") * 6 + ("a", "d")
        for row, right in (((plan, many, few), True), ((plan, many, few, 1, 3), True), ((plan, many, few, 1, 13), True), ((plan, many, few, 1, 4), False),
                           ((plan, many, few, 0, 2), False), ((plan, few, many, 1, 3), False), ((plan, many[:-2], few[:-2]), False), ((plan, many, few, 1), False)):
            self.assertIs(self.assert_judged(sample, told[:3] + ((row,),)), right, row)
        self.assertFalse(self.assert_judged(sample[:5] + (6,), told[:3] + (((plan, many, few),),)))


class TestErrors(FitTest):
    RIGHT = (HIT, (3, 2), PRICES, MISS, 0)
    CALLS = ((cheapest, ()), (shows_cheapest, (("none", ()),)))

    def assert_refused(self, place, kind, values, is_right):
        refused = 0
        for value in values:
            if is_right(value):
                continue
            refused += 1
            args = self.RIGHT[:place] + (value,) + self.RIGHT[place + 1:]
            for function, rest in self.CALLS:
                self.assert_raises_just(kind, value, function, Program(TWO_WAYS), *args, *rest)
        self.assertGreater(refused, 60)

    def test_no_counters(self):
        self.assert_refused(0, BadCounters, ANY_VALUES + list(twists(HIT)), plain.is_counters)

    def test_no_lengths(self):
        values = ANY_VALUES + list(twists((3, 2))) + [(), (0,), (7,), (1, 2, 3, 4), (1, 7), (6, 0), (-1,), (True,), ("1",), [1, 2]]
        self.assert_refused(1, BadLengths, values, plain_plans.is_lengths)

    def test_lengths_at_the_edges(self):
        for lengths in ((1,), (6,), (1, 6), (6, 6, 6), (1, 1, 1)):
            told = cheapest(Program(TWO_WAYS), HIT, lengths, PRICES, MISS, 0)
            self.assertEqual((told[0], [length for length, _ in told[2]]), ("plan", list(lengths)))

    def test_no_prices(self):
        values = ANY_VALUES + list(twists(PRICES)) + [
            (("hit", -1), ("miss", 2)), (("hit", 100), ("miss", 2)), (("hit", 1),), (("miss", 2), ("hit", 1)), (("hit", 1), ("hit", 1), ("miss", 2)),
            (("hit", 1), ("hit", 2), ("miss", 2)), (("hit", 1), ("miss", 2), ("out", 3)), (("hit", 1), ("miss", True)), (["hit", 1], ["miss", 2]), {"hit": 1, "miss": 2}]
        self.assert_refused(2, BadPrices, values, lambda value: plain_plans.is_prices(HIT, value))

    def test_prices_at_the_edges(self):
        for prices in ((("hit", 0), ("miss", 99)), (("hit", 99), ("miss", 0))):
            self.assertEqual(cheapest(Program(TWO_WAYS), HIT, (3,), prices, MISS, 0)[1], 0)
        counters = ((("b", "z"), None), (("a", "b"), 2))
        prices = (("a", 1), ("b", 1), ("z", 1))
        self.assertEqual(cheapest(Program(TWO_WAYS), counters, (3,), prices, (), 0)[:2], ("plan", 0))
        for wrong in (prices[:2], prices[1:], prices + (("zz", 1),), (("b", 1), ("z", 1), ("a", 1), ("b", 1))):
            self.assert_raises_just(BadPrices, wrong, cheapest, Program(TWO_WAYS), counters, (3,), wrong, (), 0)

    def test_no_question(self):
        self.assert_refused(3, BadQuestion, ANY_VALUES + list(twists(MISS)), judged_question)

    def test_no_count(self):
        self.assert_refused(4, BadCount, ANY_VALUES + [-1, "0", (0,), [0]] + [("a", value) for value in ANY_VALUES], lambda value: is_int(value) and value >= 0)

    def test_too_many(self):
        kinds = tuple(first + other for first in "abcdefghijklmnopqrstuvwxyz" for other in "abcdefghij")
        for counters, lengths, number in ((HIT, (1, 1, 1), None), (((kinds[:255], None),), (6,), None), (((kinds[:256], None),), (6,), 257), (((("a", "b", "c", "d", "e", "f"), None),), (1, 1, 1), 343),
                                          (((("a", "b", "c", "d", "e"), None),), (1, 1, 1), None), (((tuple("abcdefgh"), None), (tuple("abcdefghijk"), None)), (2,), None),
                                          (((tuple("abcdefghijklmnop"), None),), (2, 2), 289), (((tuple("abcdefghijklmno"), None),), (2, 2), None),
                                          (((tuple("abcdefghijklmnopqrstuvwxyz"), 3), (tuple("abcdefghijklmnopqrstuvwxyz"), 3)), (6, 6, 6), 729 ** 3)):
            prices = tuple((kind, 1) for kind in plain_plans.kinds_of(counters))
            for steps in (TWO_WAYS, FULL):
                for function, rest in self.CALLS:
                    args = (Program(steps), counters, lengths, prices, (), 0) + rest
                    if number is None:
                        self.assertIsNone(self.caught(function, *args))
                    else:
                        error = self.caught(function, *args)
                        self.assertIs(type(error), TooMany)
                        self.assert_like(error.number, number)
                        self.assertIsNone(error.__context__)
            if number is not None:
                # What is wrong of the arguments comes ahead of it.
                self.assert_raises_just(BadCount, -1, cheapest, Program(TWO_WAYS), counters, lengths, prices, (), -1)

    def test_the_first_one_that_applies(self):
        wrong = ([HIT], [3], [PRICES], [MISS], [0])
        kinds = (BadCounters, BadLengths, BadPrices, BadQuestion, BadCount)
        for place, kind in enumerate(kinds):
            args = self.RIGHT[:place] + wrong[place:]
            for function, rest in self.CALLS:
                self.assert_raises_just(kind, wrong[place], function, Program(TWO_WAYS), *args, *rest)


if __name__ == "__main__":
    unittest.main()

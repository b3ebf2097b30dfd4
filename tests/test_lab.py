"""Section 15: labs, their deeds, news, undo and trials."""

import inspect
import random
import unittest

from fitruns import errors, lab as module
from fitruns.errors import (
    BadCount, BadCounters, BadCounts, BadLength, BadName, BadPlan, BadQuestion, BadRange, BadRewriting, Closed, NoCase, NoReading, NoStrand,
    NothingToUndo, NoWatch, Over, Stuck, Taken, TooLong, Uneven, Unfaithful,
)
from fitruns.fitting import fitting
from fitruns.lab import Lab
from fitruns.programs import Program
from fitruns.rewriting import Rewriting
from fitruns.totals import bounds
from tests import plain, plain_lab
from tests.samples import DIAMOND, FULL, LOOPS, NONE, ROUNDS, STAYS, TICK, TWO, TWO_WAYS, WAITS
from tests.support import ANY_VALUES, FitTest, is_int, is_name, twists
from tests.test_questions import judged_question
from tests.test_rewriting import GO, IMAGES

HIT = ((("hit", "miss"), None),)
ASKED = (("kind", "hit", 1),)
MISS = (("kind", "miss", 1),)
PLANS = (((2, ("miss",)), (1, (None,))),)
BOTH = (((2, ("miss",)), (1, (None,))), ((1, (None,)), (2, ("hit",))))
X = (("kind", "x", 1),)
GREAT = 999999999999999999
METHODS = ("begin", "hear", "close", "doubt", "trust", "drop", "watch", "unwatch", "turn_to", "sheet", "told", "undo", "trial", "tried")


def new_lab(steps=TWO_WAYS, counters=HIT):
    return Lab(Program(steps), counters)


def some_lab():
    """A lab with one case that has heard one turn, one that is closed, and a watch."""
    lab = new_lab()
    lab.begin("one", PLANS)
    lab.watch("w", ASKED, 0)
    lab.hear("one", 0, (3,))
    lab.begin("two", BOTH)
    for strand, counts in ((0, (0,)), (1, (None,)), (1, (2,)), (0, (None,))):
        lab.hear("two", strand, counts)
    lab.close("two")
    return lab


def seen(lab):
    """All that a lab shows, but for its deeds and news."""
    told = []
    for case in lab.cases:
        try:
            told.append((case, lab.sheet(case), lab.told(case, ASKED), lab.told(case, X, since=1)))
        except Uneven as error:
            told.append((case, error.ticks))
    return (lab.program.steps, lab.counters, lab.cases, lab.watches, told)


class TestExamples(FitTest):
    def lab(self):
        steps = (('in', (), ('cold', 'hot')), ('hot', (('miss', 3),), ('out',)), ('cold', (('hit', 2),), ('out',)), ('out', (), ()))
        lab = Lab(Program(steps), ((('hit', 'miss'), None),))
        lab.begin('one', (((2, ('miss',)), (1, (None,))),))
        lab.watch('w', (('kind', 'hit', 1),), 0)
        return lab

    def test_the_first_one(self):
        lab = self.lab()
        lab.hear('one', 0, (3,))
        self.assert_like([lab.told('one', (('kind', 'hit', 1),)), lab.news, lab.sheet('one'), lab.deeds],
                         [(0, 0), (('w', 'one', None, (0, 0)),), ((((2, ('miss',), (3,)),),), False), 3])

    def test_the_second_one(self):
        self.assert_raises_just(Stuck, 2, self.lab().hear, 'one', 0, (7,), word="t")

    def test_the_third_one(self):
        lab = self.lab()
        lab.hear('one', 0, (3,))
        word = lab.undo()
        self.assert_like([word, lab.deeds, lab.news, lab.cases, lab.watches],
                         ['hear', 2, (('w', 'one', (0, 0), None),), ('one',), (('w', (('kind', 'hit', 1),), 0),)])

    def test_the_fourth_one(self):
        lab = self.lab()
        lab.hear('one', 0, (3,))
        lab.doubt('one', 0, 0, 0)
        self.assert_like([lab.told('one', (('kind', 'hit', 1),)), lab.news], [(0, 2), (('w', 'one', (0, 0), (0, 2)),)])


class TestInterface(FitTest):
    def test_the_class_and_its_methods(self):
        self.assertTrue(inspect.isclass(module.Lab))
        self.assertEqual(module.Lab.__module__, "fitruns.lab")
        for name in METHODS + ("__eq__", "__init__"):
            self.assertTrue(inspect.isfunction(vars(Lab)[name]), name)

    def test_what_a_new_lab_shows(self):
        program = Program(TWO_WAYS)
        for lab in (Lab(program, HIT), Lab(counters=HIT, program=program)):
            self.assertIs(lab.program, program)
            self.assert_like([lab.counters, lab.cases, lab.watches, lab.news, lab.deeds], [HIT, (), (), (), 0])

    def test_each_method_by_name(self):
        lab, same = new_lab(), new_lab()
        self.assertIsNone(lab.begin(plans=BOTH, case="one"))
        self.assertIsNone(lab.hear(length=1, counts=(0,), strand=0, case="one"))
        self.assertIsNone(lab.hear(counts=(None,), strand=1, case="one"))
        self.assertIsNone(lab.watch(most=1, question=ASKED, name="w"))
        self.assertIsNone(lab.doubt(counter=0, turn=0, strand=0, case="one"))
        self.assertIsNone(lab.trust(counter=0, turn=0, strand=0, case="one"))
        self.assert_like(lab.sheet(case="one"), ((((1, ("miss",), (0,)),), ((1, (None,), (None,)),)), False))
        self.assert_like(lab.told(until=1, since=0, question=ASKED, case="one"), (0, 0))
        self.assertIsNone(lab.begin(case="two", plans=(((3, (None,)),),)))
        self.assertIsNone(lab.hear(case="two", strand=0, counts=(None,), length=None))
        self.assertIsNone(lab.close(case="two"))
        self.assertIsNone(lab.drop(case="two"))
        self.assertIsNone(lab.unwatch(name="w"))
        self.assertIsNone(lab.turn_to(rewriting=Rewriting(lab.program, Program(GO), IMAGES)))
        self.assert_like(lab.tried(look=lambda other: other.deeds), 0)
        self.assertEqual([lab.undo() for _ in range(12)], ["turn_to", "unwatch", "drop", "close", "hear", "begin", "trust", "doubt", "watch", "hear", "hear", "begin"])
        self.assertEqual(lab, same)

    def test_what_comes_behind_the_star_comes_by_name_alone(self):
        lab = some_lab()
        self.assertRaises(TypeError, lab.hear, "one", 0, (None,), 1)
        self.assertRaises(TypeError, lab.told, "one", ASKED, 0)
        self.assertRaises(TypeError, lab.told, "one", ASKED, 0, None)


class Story:
    """Deeds drawn by chance, done in a lab and in the model side by side."""

    COUNTERS = (((("x", "y"), None),), ((("x",), 2), (("y",), None)), ((("hit", "x"), None), (("miss", "x", "y"), 3)))
    QUESTIONS = (X, (("kind", "y", 2), ("step", "a", 1)), ASKED, (), (("kind", "x", 1), ("kind", "y", -1)), (("step", "b", 1),))

    def __init__(self, test, seed):
        self.test = test
        self.draw = random.Random(seed)
        steps = self.draw.choice((DIAMOND, ROUNDS, LOOPS, TWO_WAYS, WAITS))
        self.counters = self.draw.choice(self.COUNTERS)
        self.lab = Lab(Program(steps), self.counters)
        self.model = plain_lab.Model(steps, self.counters)
        self.runs = {}
        self.done = []

    def some_name(self):
        return self.draw.choice(("a", "b", "c", "c", "zz", "Z", "", 7))

    def some_plan(self):
        settings = plain.all_settings(self.counters)
        return tuple((self.draw.choice((1, 1, 2, 3)), self.draw.choice(settings)) for _ in range(self.draw.choice((1, 2, 3))))

    def some_begin(self):
        plans = tuple(self.some_plan() for _ in range(self.draw.choice((1, 1, 2, 2))))
        if self.draw.random() < 0.15:
            plans = self.draw.choice(((), plans * 3, list(plans), plans[:1] + ((),), ([], plans[0]), None, plans[0]))
        return (self.some_name(), plans)

    def some_hear(self):
        name, cases = self.some_case(), self.model.scene()[1]
        strand = self.draw.choice((0, 0, 0, 1, 1, 2, -1, False)) if self.draw.random() < 0.4 else 0
        length = self.draw.choice((None, None, None, None, 1, 1, 2, 9, 0, "1"))
        if name not in cases:
            return (name, strand, (0,) * len(self.counters), length)
        case = cases[name]
        ticks = plain_lab.ticks_of(case["heard"])
        if strand == 0 and len(ticks) == 2 and ticks[1] < ticks[0] and self.draw.random() < 0.8:
            strand = 1
        if type(strand) is not int or not 0 <= strand < len(ticks) or sum(ticks) > 12:
            return (name, strand, (0,) * len(self.counters), length)
        most, setting = self.model.next_turn(case, strand)
        if len(ticks) == 2 and ticks[strand] < ticks[1 - strand] and ticks[1 - strand] - ticks[strand] < most:
            length = self.draw.choice((ticks[1 - strand] - ticks[strand], length))
        return (name, strand, self.some_counts(name, ticks[strand], most, setting, length), length)

    def some_counts(self, name, ticks, most, setting, length):
        steps = self.model.scene()[0]
        runs = [run for run in plain.runs_of(steps, 9) + plain.runs_of(steps, 5) + plain.runs_of(steps, 4) + plain.runs_of(steps, 3)]
        run = self.runs.setdefault((name, steps), self.draw.choice(runs or plain.runs_of(steps, 1)))
        part = run[ticks:ticks + (length if type(length) is int and 0 < length < 9 else most)]
        counts = plain.counts_of(steps, self.counters, setting, part)
        if self.draw.random() < 0.2:
            place = self.draw.randrange(len(counts))
            other = self.draw.choice((0, 1, 2, 5, -1, None, True, "0"))
            counts = self.draw.choice((counts[:place] + (other,) + counts[place + 1:], counts[:place] + (other,) + counts[place + 1:], list(counts), counts[1:], None))
        return counts

    def some_case(self):
        cases = sorted(self.model.scene()[1])
        return self.draw.choice(cases) if cases and self.draw.random() < 0.9 else self.some_name()

    def some_reading(self):
        cases = self.model.scene()[1]
        name = self.some_case()
        if name in cases and self.draw.random() < 0.8:
            readings = [(strand, turn, counter) for strand, heard in enumerate(cases[name]["heard"]) for turn in range(len(heard)) for counter in range(len(self.counters))]
            left = sorted(cases[name]["left"])
            if readings:
                return (name,) + self.draw.choice(left if left and self.draw.random() < 0.5 else readings)
        return (name, self.draw.choice((0, 0, 1, -1, None)), self.draw.choice((0, 1, 9, -1, True)), self.draw.choice((0, 1, 2, -1, "0")))

    def some_watch(self):
        question = self.draw.choice(self.QUESTIONS) if self.draw.random() < 0.9 else self.draw.choice((None, (("kind", "x", 0),), [X]))
        return (self.some_name(), question, self.draw.choice((0, 0, 0, 1, 2, 5, -1, None, True)))

    def some_rewriting(self):
        steps = self.model.scene()[0]
        images = tuple((step[0],) for step in steps)
        if self.draw.random() < 0.3:
            images = images[:1] + self.draw.choice((((),), (images[0] * 2,), images[1:2])) * (len(steps) - 1)
        elder = steps if self.draw.random() < 0.8 else FULL if steps != FULL else STAYS
        if elder != steps:
            images = tuple((elder[0][0],) for _ in steps)
        newer = tuple((name, happenings[:1], following) for name, happenings, following in steps)
        return (elder, newer, images)

    def some_deed(self):
        word = self.draw.choice(("begin",) * 4 + ("hear",) * 12 + ("close",) * 4 + ("doubt", "doubt", "doubt", "trust", "trust", "drop", "watch", "watch", "unwatch", "undo", "undo", "undo", "turn_to"))
        if word == "turn_to" and self.draw.random() < 0.6:
            word = "hear"
        args = {"begin": self.some_begin, "hear": self.some_hear, "close": lambda: (self.some_case(),), "doubt": self.some_reading, "trust": self.some_reading,
                "drop": lambda: (self.some_case(),), "watch": self.some_watch, "unwatch": lambda: (self.some_name(),), "turn_to": self.some_rewriting, "undo": lambda: ()}[word]()
        return word, args

    def call(self, lab, word, args):
        if word == "hear":
            return lab.hear(*args[:3], length=args[3])
        if word == "turn_to":
            elder, newer, images = args
            return lab.turn_to(Rewriting(Program(elder), Program(newer), images))
        return getattr(lab, word)(*args)

    def caught(self, lab, word, args):
        """(name of the error, what it holds), None without one."""
        try:
            told = self.call(lab, word, args)
        except errors.FitError as error:
            self.test.assertIsNone(error.__context__)
            held = list(vars(error).values())
            return (type(error).__name__, held[0] if held else None)
        self.test.assertIsNone(told)
        return None

    def go_on(self):
        word, args = self.some_deed()
        if word == "undo":
            if not self.model.deeds:
                self.test.assert_raises_nothing_to_undo(self.lab)
                return
            self.test.assertEqual(self.lab.undo(), self.model.undo())
        else:
            before = (repr(args), self.state(), self.lab.news, self.lab.deeds)
            wanted, told = self.model.do(word, args), self.caught(self.lab, word, args)
            if wanted is not None and wanted[0] == "BadRewriting":
                self.test.assertEqual(told[0], "BadRewriting")
            else:
                self.test.assert_like(told, wanted, (self.model.begun, self.model.deeds, word, args))
            self.test.assertEqual(repr(args), before[0])
            if told is not None:
                self.test.assertEqual((self.state(), self.lab.news, self.lab.deeds), before[1:])
            self.done.append((word, told and told[0]))
        self.compare()

    def state(self):
        return repr(seen(self.lab))

    def compare(self):
        test, scene = self.test, self.model.scene()
        steps, cases, watches = scene
        test.assertEqual(self.lab.program.steps, steps)
        test.assert_like(self.lab.cases, tuple(sorted(cases)))
        test.assert_like(self.lab.watches, tuple(sorted((name,) + watches[name] for name in watches)))
        test.assert_like(self.lab.deeds, len(self.model.deeds))
        test.assert_like(self.lab.news, self.model.news, self.model.deeds)
        for name, case in cases.items():
            if plain_lab.stands(case):
                test.assert_like(self.lab.sheet(name), plain_lab.sheet_of(case))
                question = self.draw.choice(self.QUESTIONS)
                worths = [plain.worth(steps, question, run) for run in plain.fitting_runs(steps, self.counters, plain_lab.sheet_of(case))]
                test.assert_like(self.lab.told(name, question), (min(worths), max(worths)))
            else:
                test.assert_raises_just(Uneven, self.lab, self.lab.sheet, name, word="ticks", held_like=plain_lab.ticks_of(case["heard"]))

    def replayed(self):
        """A new lab, led by the deeds that are in effect alone."""
        lab = Lab(Program(self.model.begun[0]), self.counters)
        for word, args in self.model.deeds:
            self.call(lab, word, args)
        return lab


class LabTest(FitTest):
    def assert_raises_just(self, kind, held, call, *args, word="value", held_like=None, **named):
        if held_like is None:
            super().assert_raises_just(kind, held, call, *args, word=word, **named)
            return
        error = self.caught(call, *args, **named)
        self.assertIs(type(error), kind)
        self.assert_like(getattr(error, word), held_like)
        self.assertIsNone(error.__context__)

    def assert_raises_nothing_to_undo(self, lab):
        before = (repr(seen(lab)), lab.news, lab.deeds)
        error = self.caught(lab.undo)
        self.assertIs(type(error), NothingToUndo)
        self.assertEqual(vars(error), {})
        self.assertEqual((repr(seen(lab)), lab.news, lab.deeds), before)


class TestStories(LabTest):
    """Undo, trials and stories of a lab lead to what plain calls in the same sequence lead to."""

    def test_stories(self):
        done, news = {}, 0
        for seed in range(150):
            story = Story(self, seed)
            for _ in range(34):
                story.go_on()
                news += len(story.lab.news)
            self.assertEqual(story.lab, story.replayed())
            for word, error in story.done:
                done[word, error] = done.get((word, error), 0) + 1
            if seed % 5 == 0:
                while story.model.deeds:
                    self.assertEqual(story.lab.undo(), story.model.undo())
                    story.compare()
                self.assertEqual(story.lab, Lab(Program(story.model.begun[0]), story.counters))
        for word in ("begin", "hear", "close", "doubt", "trust", "drop", "watch", "unwatch", "turn_to"):
            self.assertGreater(done[word, None], 5, word)
        for pair in (("begin", "BadName"), ("begin", "Taken"), ("begin", "BadPlan"), ("hear", "NoCase"), ("hear", "Closed"), ("hear", "NoStrand"), ("hear", "BadCounts"),
                     ("hear", "BadLength"), ("hear", "Over"), ("hear", "Stuck"), ("close", "NoCase"), ("close", "Uneven"), ("close", "Stuck"), ("close", "Closed"),
                     ("doubt", "NoReading"), ("doubt", "NoStrand"), ("trust", "NoReading"), ("drop", "NoCase"), ("watch", "Taken"), ("watch", "BadQuestion"),
                     ("watch", "BadCount"), ("watch", "BadName"), ("unwatch", "NoWatch"), ("turn_to", "BadRewriting"), ("turn_to", "Unfaithful")):
            self.assertGreater(done.get(pair, 0), 2, pair)
        self.assertGreater(news, 150)

    def test_trials_leave_the_lab_as_it_was(self):
        for seed in range(200, 225):
            story = Story(self, seed)
            for _ in range(15):
                story.go_on()
            before = (story.state(), story.lab.news, story.lab.deeds)
            twin = story.replayed()
            with story.lab.trial() as other:
                self.assertIsInstance(other, Lab)
                self.assertIsNot(other, story.lab)
                self.assertEqual(other, story.lab)
                self.assert_like((other.deeds, other.news, other.cases, other.watches), (0, (), story.lab.cases, story.lab.watches))
                self.assert_raises_nothing_to_undo(other)
                deeds = 0
                for _ in range(10):
                    word, args = story.some_deed()
                    if word == "undo":
                        if deeds:
                            other.undo()
                            deeds -= 1
                    else:
                        told, wanted = story.caught(other, word, args), story.caught(twin, word, args)
                        self.assertEqual(repr(told)[:40] if told and told[0] == "BadRewriting" else told, repr(wanted)[:40] if told and told[0] == "BadRewriting" else wanted)
                        deeds += told is None
                        if told is None and deeds < 99:
                            other.undo()
                            twin.undo()
                            deeds -= 1
                            self.assertEqual(other.news, twin.news)
                    self.assertEqual(other.deeds, deeds)
                    self.assertEqual((story.state(), story.lab.news, story.lab.deeds), before)
            self.assertEqual((story.state(), story.lab.news, story.lab.deeds), before)
            story.compare()
            for _ in range(5):
                story.go_on()


class TestTrials(LabTest):
    def test_what_is_done_in_a_trial(self):
        lab = some_lab()
        before = (repr(seen(lab)), lab.news, lab.deeds)
        with lab.trial() as other:
            other.hear("one", 0, (None,))
            other.close("one")
            other.drop("two")
            other.unwatch("w")
            self.assertEqual((other.deeds, other.cases, other.watches), (4, ("one",), ()))
            self.assertNotEqual(other, lab)
            self.assertEqual([other.undo() for _ in range(4)], ["unwatch", "drop", "close", "hear"])
            self.assertEqual(other, lab)
            self.assertEqual((repr(seen(lab)), lab.news, lab.deeds), before)
            other.turn_to(Rewriting(other.program, Program(GO), IMAGES))
        self.assertEqual((repr(seen(lab)), lab.news, lab.deeds), before)
        self.assertEqual(other.program.steps, GO)
        self.assertEqual(lab.undo(), "close")

    def test_what_is_done_in_the_lab_meanwhile(self):
        lab = some_lab()
        with lab.trial() as other:
            lab.drop("two")
            self.assertEqual(other.cases, ("one", "two"))
            with other.trial() as third:
                third.drop("one")
                self.assertEqual((lab.cases, other.cases, third.cases), (("one",), ("one", "two"), ("two",)))
        self.assertEqual((lab.cases, lab.deeds, other.deeds), (("one",), 10, 0))

    def test_errors_go_on(self):
        lab = some_lab()
        before = (repr(seen(lab)), lab.news, lab.deeds)
        for raised in (Stuck(4), KeyError("k"), ValueError()):
            error = None
            try:
                with lab.trial() as other:
                    other.drop("one")
                    raise raised
            except Exception as caught:
                error = caught
            self.assertIs(error, raised)
            self.assertEqual((repr(seen(lab)), lab.news, lab.deeds), before)

    def test_tried(self):
        lab = some_lab()
        before = (repr(seen(lab)), lab.news, lab.deeds)

        def look(other):
            self.assertIsNot(other, lab)
            self.assertEqual(other, lab)
            self.assert_like((other.deeds, other.news), (0, ()))
            other.hear("one", 0, (None,))
            return other.told("one", MISS), other.deeds

        self.assert_like(lab.tried(look), ((3, 3), 1))
        self.assertEqual((repr(seen(lab)), lab.news, lab.deeds), before)
        self.assertIsNone(lab.tried(lambda other: other.drop("one")))
        error = self.caught(lab.tried, lambda other: other.hear("one", 0, (5,)))
        self.assertIs(type(error), BadCounts)
        raised = RuntimeError("look")

        def fail(other):
            other.drop("two")
            raise raised

        self.assertIs(self.caught(lab.tried, fail), raised)
        self.assertEqual((repr(seen(lab)), lab.news, lab.deeds), before)
        self.assertEqual(lab.tried(lambda other: other), lab)


class TestEquality(LabTest):
    def test_labs_that_came_to_the_same_by_other_deeds(self):
        one, other = new_lab(), new_lab()
        self.assertTrue(one == other)
        one.begin("a", BOTH)
        one.begin("b", PLANS)
        one.watch("w", ASKED, 1)
        one.hear("a", 0, (3,))
        one.hear("a", 1, (None,))
        one.doubt("a", 0, 0, 0)
        self.assertFalse(one == other)
        other.watch("v", ASKED, 1)
        other.watch("w", ASKED, 1)
        other.begin("b", PLANS)
        other.begin("a", BOTH)
        other.hear("a", 1, (None,), length=1)
        other.hear("a", 0, (3,), length=2)
        other.unwatch("v")
        self.assertFalse(one == other)
        other.doubt("a", 0, 0, 0)
        self.assertTrue(one == other)
        self.assertFalse(one != other)
        self.assertNotEqual(one.deeds, other.deeds)

    def test_each_part_counts(self):
        changes = (lambda lab: lab.begin("c", PLANS), lambda lab: lab.hear("one", 0, (None,)), lambda lab: lab.doubt("one", 0, 0, 0), lambda lab: lab.close("open"),
                   lambda lab: lab.drop("one"), lambda lab: lab.watch("v", ASKED, 0), lambda lab: lab.unwatch("w"), lambda lab: lab.doubt("two", 0, 0, 0),
                   lambda lab: lab.turn_to(Rewriting(Program(TWO_WAYS), Program(TWO_WAYS), tuple((step[0],) for step in TWO_WAYS))))
        for number, change in enumerate(changes):
            labs = []
            for _ in range(2):
                lab = some_lab()
                lab.begin("open", (((3, (None,)),),))
                lab.hear("open", 0, (None,))
                labs.append(lab)
            self.assertEqual(labs[0], labs[1])
            change(labs[0])
            self.assertTrue(labs[0] != labs[1] and not labs[0] == labs[1], number)
            labs[0].undo()
            self.assertEqual(labs[0], labs[1])

    def test_plans_count_even_where_the_same_was_heard(self):
        one, other = new_lab(), new_lab()
        one.begin("a", (((2, ("miss",)), (1, (None,))),))
        other.begin("a", (((2, ("miss",)), (2, (None,))),))
        for lab in (one, other):
            lab.hear("a", 0, (3,))
        self.assertEqual(one.sheet("a"), other.sheet("a"))
        self.assertNotEqual(one, other)

    def test_programs_and_counters_count(self):
        self.assertNotEqual(new_lab(), new_lab(DIAMOND))
        self.assertNotEqual(new_lab(), new_lab(TWO_WAYS, ((("hit", "miss"), 2),)))
        self.assertEqual(Lab(Program(TWO_WAYS), HIT), Lab(Program(tuple(list(TWO_WAYS))), (HIT[0],)))

    def test_a_lab_equals_nothing_else(self):
        lab = some_lab()
        for value in ANY_VALUES + [lab.program, HIT, Rewriting(Program(TWO_WAYS), Program(GO), IMAGES)]:
            self.assertFalse(lab == value)
            self.assertTrue(lab != value)


class TestDeeds(LabTest):
    def test_forty_ticks(self):
        lab = new_lab(STAYS, TICK)
        lab.begin("a", (((8, ("tick",)), (7, (None,))), ((3, (None,)),)))
        for turn in range(5):
            lab.hear("a", 0, (8,) if turn % 2 == 0 else (None,))
        self.assert_raises_just(TooLong, self, lab.hear, "a", 0, (None,), word="ticks", held_like=45)
        self.assert_raises_just(TooLong, self, lab.hear, "a", 0, (None,), length=3, word="ticks", held_like=41)
        with lab.trial() as other:
            other.hear("a", 0, (None,), length=2)
            self.assert_raises_just(Over, 0, other.hear, "a", 0, (8,), word="strand")
        for _ in range(13):
            lab.hear("a", 1, (None,))
        self.assert_raises_just(TooLong, self, lab.hear, "a", 1, (None,), word="ticks", held_like=42)
        lab.hear("a", 1, (None,), length=1)
        lab.hear("a", 0, (None,), length=2)
        self.assertEqual([sum(turn[0] for turn in record) for record in lab.sheet("a")[0]], [40, 40])

    def test_over_behind_a_turn_cut_short(self):
        lab = new_lab(STAYS, TICK)
        lab.begin("a", (((3, ("tick",)), (2, (None,))),))
        lab.hear("a", 0, (3,), length=3)
        lab.hear("a", 0, (None,), length=1)
        self.assert_raises_just(Over, 0, lab.hear, "a", 0, (3,), word="strand")
        self.assert_raises_just(Over, 0, lab.hear, "a", 0, (3,), length=1, word="strand")
        # What is wrong of the arguments comes ahead, by the turn that would be next.
        counts = (None,)
        self.assert_raises_just(BadCounts, counts, lab.hear, "a", 0, counts)
        self.assert_raises_just(BadLength, 4, lab.hear, "a", 0, (3,), length=4)
        lab.undo()
        lab.hear("a", 0, (None,))
        lab.hear("a", 0, (1,), length=1)
        self.assert_like(lab.sheet("a"), ((((3, ("tick",), (3,)), (2, (None,), (None,)), (1, ("tick",), (1,))),), False))

    def test_stuck_at_the_turn_with_which_no_run_fits_any_more(self):
        lab = new_lab(DIAMOND, TWO)
        lab.begin("a", (((1, ("x", "y")),), ((2, ("x", None)), (1, (None, "y")))))
        lab.hear("a", 0, (1, 0))
        lab.hear("a", 0, (2, 1))
        # What the second strand tells does not go with it; no run has two ticks then.
        self.assert_raises_just(Stuck, self, lab.hear, "a", 1, (1, None), word="t", held_like=2)
        lab.hear("a", 1, (3, None))
        # The strands are not even: nothing is looked at until they are.
        lab.hear("a", 1, (None, 2))
        self.assert_raises_just(Stuck, self, lab.hear, "a", 0, (0, 0), word="t", held_like=3)
        lab.undo()
        lab.hear("a", 1, (None, 0))
        self.assert_raises_just(Stuck, self, lab.hear, "a", 0, (1, 0), word="t", held_like=3)
        lab.hear("a", 0, (0, 0))
        self.assert_like(fitting(lab.program, TWO, lab.sheet("a")), ("a", "b", "d"))

    def test_stuck_early_in_a_strand_that_was_longer(self):
        lab = new_lab(DIAMOND, TWO)
        lab.begin("a", (((1, ("x", None)),), ((3, (None, None)),)))
        lab.hear("a", 0, (9, None))
        lab.hear("a", 0, (9, None))
        lab.hear("a", 0, (9, None))
        self.assert_raises_just(Stuck, self, lab.hear, "a", 1, (None, None), word="t", held_like=1)
        lab.doubt("a", 0, 0, 0)
        self.assert_raises_just(Stuck, self, lab.hear, "a", 1, (None, None), word="t", held_like=2)

    def test_closing(self):
        lab = new_lab()
        lab.begin("a", PLANS)
        self.assert_raises_just(Uneven, self, lab.close, "a", word="ticks", held_like=(0,))
        lab.begin("b", BOTH)
        self.assert_raises_just(Uneven, self, lab.close, "b", word="ticks", held_like=(0, 0))
        lab.hear("a", 0, (3,))
        self.assert_raises_just(Stuck, self, lab.close, "a", word="t", held_like=2)
        lab.hear("a", 0, (None,))
        lab.hear("b", 0, (3,))
        self.assert_raises_just(Uneven, self, lab.close, "b", word="ticks", held_like=(2, 0))
        self.assert_raises_just(Uneven, self, lab.sheet, "b", word="ticks", held_like=(2, 0))
        lab.close("a")
        self.assertIs(lab.sheet("a")[1], True)
        case = "a"
        self.assert_raises_just(Closed, case, lab.close, case, word="name")
        self.assert_raises_just(Closed, case, lab.hear, case, None, None, word="name")

    def test_a_reading_left_out_counts_as_on_nothing(self):
        lab = new_lab(DIAMOND, TWO)
        lab.begin("a", (((3, ("x", "y")),),))
        lab.hear("a", 0, (3, 1))
        lab.doubt("a", 0, 0, 1)
        self.assert_like(lab.sheet("a"), ((((3, ("x", None), (3, None)),),), False))
        lab.doubt("a", 0, 0, 0)
        self.assert_like(lab.sheet("a"), ((((3, (None, None), (None, None)),),), False))
        self.assert_like(lab.told("a", X), (1, 3))
        self.assert_raises_just(NoReading, self, lab.doubt, "a", 0, 0, 0, held_like=(0, 0))
        lab.close("a")
        lab.trust("a", 0, 0, 1)
        self.assert_like(lab.sheet("a"), ((((3, (None, "y"), (None, 1)),),), True))
        self.assert_raises_just(NoReading, self, lab.trust, "a", 0, 0, 1, held_like=(0, 1))
        lab.trust("a", 0, 0, 0)
        lab.doubt("a", 0, 0, 0)
        self.assert_like(lab.told("a", X), (3, 3))

    def test_trusting_what_no_run_has(self):
        lab = new_lab(DIAMOND, TWO)
        lab.begin("a", (((3, ("x", "y")),),))
        self.assert_raises_just(Stuck, self, lab.hear, "a", 0, (3, 2), word="t", held_like=3)
        lab.begin("b", (((2, ("x", None)), (1, (None, "y"))), ((3, (None, None)),)))
        lab.hear("b", 0, (1, None))
        lab.doubt("b", 0, 0, 0)
        lab.hear("b", 0, (None, 0))
        lab.hear("b", 1, (None, None))
        lab.trust("b", 0, 0, 0)
        self.assert_like(lab.told("b", X), (1, 1))
        lab.begin("c", (((2, ("x", None)), (1, (None, "y"))), ((3, (None, None)),)))
        lab.hear("c", 0, (2, None))
        lab.doubt("c", 0, 0, 0)
        lab.hear("c", 0, (None, 0))
        # As long as the case does not stand, whatever was counted may be trusted.
        lab.trust("c", 0, 0, 0)
        lab.doubt("c", 0, 0, 0)
        lab.hear("c", 1, (None, None))
        lab.close("c")
        self.assert_raises_just(Stuck, self, lab.trust, "c", 0, 0, 0, word="t", held_like=2)
        self.assert_like(lab.told("c", X), (1, 3))

    def test_a_case_and_a_watch_may_have_the_same_name(self):
        lab = new_lab()
        lab.begin("a", PLANS)
        lab.watch("a", ASKED, 0)
        lab.hear("a", 0, (0,))
        self.assert_like(lab.news, (("a", "a", None, (2, 2)),))
        name = "a"
        self.assert_raises_just(Taken, name, lab.begin, name, PLANS, word="name")
        self.assert_raises_just(Taken, name, lab.watch, name, ASKED, 0, word="name")

    def test_cases_and_watches_ascend(self):
        lab = new_lab()
        for name in ("m", "b", "z", "aa", "a"):
            lab.begin(name, PLANS)
            lab.watch(name, ASKED, 3)
        self.assert_like(lab.cases, ("a", "aa", "b", "m", "z"))
        self.assert_like(lab.watches, tuple((name, ASKED, 3) for name in ("a", "aa", "b", "m", "z")))

    def test_undo_down_to_the_beginning(self):
        lab = some_lab()
        words = [lab.undo() for _ in range(lab.deeds)]
        self.assertEqual(words, ["close", "hear", "hear", "hear", "hear", "begin", "hear", "watch", "begin"])
        self.assert_raises_nothing_to_undo(lab)
        self.assertEqual(lab, new_lab())
        lab.begin("one", PLANS)
        self.assertEqual((lab.deeds, lab.undo(), lab.deeds), (1, "begin", 0))


class TestNews(LabTest):
    def test_a_watch_that_comes_and_goes(self):
        lab = some_lab()
        lab.watch("v", MISS, 0)
        self.assert_like(lab.news, (("v", "one", None, (3, 3)), ("v", "two", None, (0, 0))))
        lab.unwatch("v")
        self.assert_like(lab.news, (("v", "one", (3, 3), None), ("v", "two", (0, 0), None)))
        lab.undo()
        self.assert_like(lab.news, (("v", "one", None, (3, 3)), ("v", "two", None, (0, 0))))
        lab.drop("one")
        self.assert_like(lab.news, (("v", "one", (3, 3), None), ("w", "one", (0, 0), None)))

    def test_what_does_not_change_is_no_news(self):
        lab = new_lab()
        lab.begin("a", (((1, (None,)),),))
        lab.watch("w", ASKED, 1)
        self.assertEqual(lab.news, ())
        lab.hear("a", 0, (None,))
        self.assert_like(lab.news, (("w", "a", None, (0, 0)),))
        # Behind the second tick it is unknown whether x was hit, behind the third one, too.
        lab.hear("a", 0, (None,))
        self.assert_like(lab.news, (("w", "a", (0, 0), (0, 2)),))
        lab.hear("a", 0, (None,))
        self.assertEqual(lab.news, ())
        lab.watch("v", ASKED, 2)
        self.assert_like(lab.news, (("v", "a", None, (0, 2)),))
        self.assertIs(type(self.caught(lab.close, "b")), NoCase)
        self.assert_like(lab.news, (("v", "a", None, (0, 2)),))

    def test_bounds_that_change_within_what_is_watched_for_are_no_news(self):
        lab = new_lab()
        lab.begin("a", (((1, (None,)), (2, ("miss",))),))
        lab.watch("w", (("kind", "hit", 1), ("kind", "miss", 1)), 3)
        lab.hear("a", 0, (None,))
        self.assert_like(lab.news, (("w", "a", None, (0, 0)),))
        lab.hear("a", 0, (3,))
        self.assertEqual(lab.news, ())

    def test_news_ascend(self):
        lab = new_lab()
        names = ("m", "b", "zz", "a", "k", "c", "y", "aa")
        for name in names:
            lab.watch(name, ASKED, 5)
        for name in names[:5]:
            lab.begin(name, PLANS)
            lab.hear(name, 0, (3,))
            self.assert_like(lab.news, tuple((watch, name, None, (0, 0)) for watch in sorted(names)))
        lab.watch("new", ASKED, 5)
        self.assert_like(lab.news, tuple(("new", name, None, (0, 0)) for name in sorted(names[:5])))
        lab.turn_to(Rewriting(Program(TWO_WAYS), Program(TWO_WAYS), tuple((step[0],) for step in TWO_WAYS)))
        every = sorted(names + ("new",))
        self.assertEqual([row[:2] for row in lab.news], [(watch, name) for watch in every for name in sorted(names[:5])])

    def test_a_case_that_gets_uneven(self):
        lab = new_lab()
        lab.begin("a", (((1, (None,)),), ((1, (None,)),)))
        lab.watch("w", ASKED, 5)
        lab.hear("a", 0, (None,))
        self.assertEqual(lab.news, ())
        lab.hear("a", 1, (None,))
        self.assert_like(lab.news, (("w", "a", None, (0, 0)),))
        lab.hear("a", 1, (None,))
        self.assert_like(lab.news, (("w", "a", (0, 0), None),))
        lab.hear("a", 0, (None,))
        self.assert_like(lab.news, (("w", "a", None, (0, 2)),))
        self.assertEqual(lab.undo(), "hear")
        self.assert_like(lab.news, (("w", "a", (0, 2), None),))


class TestTurning(LabTest):
    def test_cases_go_and_watches_are_led(self):
        lab = some_lab()
        lab.watch("v", MISS, 2)
        lab.watch("u", (("step", "none", 1),), 0)
        rewriting = Rewriting(Program(TWO_WAYS), Program(GO), IMAGES)
        lab.turn_to(rewriting)
        self.assertEqual((lab.program, lab.counters, lab.cases), (Program(GO), HIT, ()))
        self.assert_like(lab.watches, (("u", (), 0), ("v", (("step", "slow", 3),), 2), ("w", (("step", "fast", 2),), 0)))
        self.assert_like(lab.news, (("u", "one", (0, 0), None), ("u", "two", (0, 0), None), ("v", "one", (3, 3), None), ("v", "two", (0, 0), None),
                                    ("w", "one", (0, 0), None), ("w", "two", (2, 2), None)))
        lab.begin("one", (((2, (None,)),),))
        lab.hear("one", 0, (None,))
        self.assert_like(lab.news, (("u", "one", None, (0, 0)),))
        self.assert_like(lab.told("one", (("step", "slow", 3),)), (0, 3))
        self.assertEqual([lab.undo() for _ in range(3)], ["hear", "begin", "turn_to"])
        self.assertEqual((lab.program, lab.cases), (Program(TWO_WAYS), ("one", "two")))
        self.assert_like(lab.watches, (("u", (("step", "none", 1),), 0), ("v", MISS, 2), ("w", ASKED, 0)))
        self.assert_like(lab.news[:1], (("u", "one", None, (0, 0)),))
        self.assertEqual(len(lab.news), 6)

    def test_other_values(self):
        lab = some_lab()
        rewriting = Rewriting(Program(GO), Program(TWO_WAYS), (("go",), (), (), ()))
        for value in ANY_VALUES + [Program(TWO_WAYS), lab, rewriting]:
            self.assert_raises_just(BadRewriting, value, lab.turn_to, value)

    def test_unfaithful(self):
        lab = some_lab()
        before = (repr(seen(lab)), lab.news, lab.deeds)
        rewriting = Rewriting(Program(TWO_WAYS), Program(GO), (("in",), ("cold",), ("hot", "out")))
        self.assert_raises_just(Unfaithful, self, lab.turn_to, rewriting, word="run", held_like=("go", "fast"))
        # Of another program it is no rewriting of this one, faithful or not.
        other = Rewriting(Program(DIAMOND), Program(GO), (("a",), ("b",), ("c", "d")))
        self.assert_raises_just(BadRewriting, other, lab.turn_to, other)
        self.assertEqual((repr(seen(lab)), lab.news, lab.deeds), before)

    def test_an_equal_elder_program_is_enough(self):
        lab = new_lab()
        lab.turn_to(Rewriting(Program(tuple(list(TWO_WAYS))), Program(GO), IMAGES))
        self.assertEqual((lab.program.steps, lab.deeds), (GO, 1))


class TestErrors(LabTest):
    def refused(self, kind, values, is_right, call, word="value"):
        """Check that the lab refuses each of these values that is not right."""
        refused = 0
        for value in values:
            if not is_right(value):
                refused += 1
                lab = some_lab()
                before = (repr(seen(lab)), lab.news, lab.deeds)
                self.assert_raises_just(kind, value, call, lab, value, word=word)
                self.assertEqual((repr(seen(lab)), lab.news, lab.deeds), before)
        self.assertGreater(refused, 30)

    def test_no_counters(self):
        for value in ANY_VALUES + list(twists(HIT)):
            if not plain.is_counters(value):
                self.assert_raises_just(BadCounters, value, Lab, Program(TWO_WAYS), value)

    def test_names(self):
        self.refused(BadName, ANY_VALUES, is_name, lambda lab, value: lab.begin(value, PLANS))
        self.refused(BadName, ANY_VALUES, is_name, lambda lab, value: lab.watch(value, ASKED, 0))
        self.refused(BadName, ANY_VALUES, is_name, lambda lab, value: lab.begin(value, None))
        self.refused(BadName, ANY_VALUES, is_name, lambda lab, value: lab.watch(value, None, None))

    def test_cases_that_are_not_there(self):
        for call in (lambda lab, value: lab.hear(value, 0, (None,)), lambda lab, value: lab.close(value), lambda lab, value: lab.doubt(value, 0, 0, 0),
                     lambda lab, value: lab.trust(value, 0, 0, 0), lambda lab, value: lab.drop(value), lambda lab, value: lab.sheet(value),
                     lambda lab, value: lab.told(value, ASKED), lambda lab, value: lab.hear(value, None, None, length="a"), lambda lab, value: lab.told(value, None, since=-1)):
            self.refused(NoCase, ANY_VALUES + ["w", "ones", "on"], lambda value: value in ("one", "two"), call)

    def test_watches_that_are_not_there(self):
        self.refused(NoWatch, ANY_VALUES + ["one", "ww"], lambda value: value == "w", lambda lab, value: lab.unwatch(value))

    def test_plans(self):
        values = [value for value in ANY_VALUES if type(value) is not tuple or len(value) not in (1, 2)] + [[PLANS[0]], PLANS * 3, list(BOTH)]
        self.refused(BadPlan, values, lambda value: False, lambda lab, value: lab.begin("new", value))
        plans = ANY_VALUES + list(twists(PLANS[0]))
        for call in (lambda lab, value: lab.begin("new", (value,)), lambda lab, value: lab.begin("new", (value, PLANS[0])), lambda lab, value: lab.begin("new", (PLANS[0], value)),
                     lambda lab, value: lab.begin("new", (value, ()))):
            self.refused(BadPlan, plans, lambda value: plain.is_plan(HIT, value), call)

    def test_strands(self):
        values = ANY_VALUES + [2, -1, "0", (0,)]
        for call in (lambda lab, value: lab.hear("one", value, (None,)), lambda lab, value: lab.doubt("one", value, 0, 0), lambda lab, value: lab.trust("one", value, 0, 0),
                     lambda lab, value: lab.hear("one", value, "counts", length=0)):
            self.refused(NoStrand, values, lambda value: is_int(value) and value == 0, call)
        for call in (lambda lab, value: lab.doubt("two", value, 9, 9), lambda lab, value: lab.trust("two", value, 9, 9)):
            self.refused(NoStrand, values, lambda value: is_int(value) and value in (0, 1), call)

    def test_counts(self):
        values = ANY_VALUES + [(None, None), (0,), (-1,), (True,), [None], ((None,),), "-"]
        self.refused(BadCounts, values, lambda value: value == (None,) and type(value) is tuple, lambda lab, value: lab.hear("one", 0, value))
        self.refused(BadCounts, values, lambda value: value == (None,) and type(value) is tuple, lambda lab, value: lab.hear("one", 0, value, length="a"))

        def hear(lab, value):
            lab = new_lab(TWO_WAYS, ((("hit", "miss"), 4), (("hit",), None)))
            lab.begin("a", (((2, ("miss", "hit")),),))
            lab.hear("a", 0, value)

        self.refused(BadCounts, [(4, 0), (3, -1), (3, None), (None, 0), (3, True), [3, 0], (3,), (3, 0, 0), ("3", 0)] + ANY_VALUES, lambda value: value == (0, 0), hear)

    def test_lengths(self):
        values = ANY_VALUES + [-1, GREAT, (1,), "2"]
        self.refused(BadLength, values, lambda value: value is None or (is_int(value) and value == 1), lambda lab, value: lab.hear("one", 0, (None,), length=value))

    def test_readings(self):
        for value in ANY_VALUES + [1, 2, 4, GREAT]:
            for turn, counter in ((value, 0), (0, value), (value, value)):
                lab = some_lab()
                before = (repr(seen(lab)), lab.deeds)
                if (turn, counter) == (0, 0) and type(turn) is int and type(counter) is int:
                    lab.doubt("two", 0, turn, counter)
                    self.assertEqual(lab.undo(), "doubt")
                else:
                    error = self.caught(lab.doubt, "two", 0, turn, counter)
                    self.assertIs(type(error), NoReading)
                    self.assert_like(error.value, (turn, counter))
                    self.assertIs(error.value[0], turn)
                    self.assertIs(error.value[1], counter)
                error = self.caught(lab.trust, "two", 0, turn, counter)
                self.assertIs(type(error), NoReading)
                self.assert_like(error.value, (turn, counter))
                self.assertEqual((repr(seen(lab)), lab.deeds), before)
        # Of a counter on nothing there is no reading.
        self.assert_raises_just(NoReading, self, some_lab().doubt, "two", 0, 1, 0, held_like=(1, 0))

    def test_readings_that_are_left_out_are_told_by_numbers(self):
        lab = new_lab(DIAMOND, TWO)
        lab.begin("a", (((1, ("x", "y")),),))
        lab.hear("a", 0, (1, 0))
        lab.hear("a", 0, (2, 1))
        lab.doubt("a", 0, 1, 1)
        lab.doubt("a", 0, 0, 0)
        for turn, counter in ((True, 1), (1, True), (False, 0), (0, False), (True, True), (1, 0), (0, 1), ("1", 1), (1, None), ([1], 1), (1, (1,))):
            self.assert_raises_just(NoReading, self, lab.trust, "a", 0, turn, counter, held_like=(turn, counter))
            if (turn, counter) not in ((1, 0), (0, 1)):
                self.assert_raises_just(NoReading, self, lab.doubt, "a", 0, turn, counter, held_like=(turn, counter))
        for strand in (False, None, 1, "0"):
            self.assert_raises_just(NoStrand, strand, lab.trust, "a", strand, 1, 1)
        lab.trust("a", 0, 1, 1)
        lab.trust("a", 0, 0, 0)

    def test_questions_and_counts_of_watches(self):
        self.refused(BadQuestion, ANY_VALUES + list(twists(ASKED)), judged_question, lambda lab, value: lab.watch("new", value, 0))
        self.refused(BadQuestion, ANY_VALUES, judged_question, lambda lab, value: lab.watch("new", value, -1))
        self.refused(BadCount, ANY_VALUES + [-1, (0,), "0"], lambda value: is_int(value) and value >= 0, lambda lab, value: lab.watch("new", ASKED, value))

    def test_told(self):
        self.refused(BadQuestion, ANY_VALUES + list(twists(ASKED)), judged_question, lambda lab, value: lab.told("one", value))
        self.refused(BadQuestion, ANY_VALUES, judged_question, lambda lab, value: lab.told("one", value, since=-1))
        self.refused(BadRange, ANY_VALUES, lambda value: is_int(value) and value >= 0, lambda lab, value: lab.told("one", ASKED, since=value))
        self.refused(BadRange, ANY_VALUES, lambda value: value is None or (is_int(value) and value >= 1), lambda lab, value: lab.told("one", ASKED, since=1, until=value))
        lab = new_lab()
        lab.begin("a", BOTH)
        self.assert_raises_just(Uneven, self, lab.told, "a", None, since=-1, word="ticks", held_like=(0, 0))
        lab = some_lab()
        self.assert_like([lab.told("two", ASKED, since=2), lab.told("two", ASKED, until=1), lab.told("two", ASKED, since=1, until=2)], [(0, 0), (0, 0), (2, 2)])
        self.assert_like(lab.told("two", ASKED), bounds(lab.program, HIT, lab.sheet("two"), ASKED))

    def test_the_first_one_that_applies(self):
        lab = some_lab()
        name, wrong = "two", [0]
        self.assert_raises_just(Closed, name, lab.hear, name, wrong, wrong, length=wrong, word="name")
        self.assert_raises_just(NoStrand, wrong, lab.hear, "one", wrong, wrong, length=wrong)
        self.assert_raises_just(BadCounts, wrong, lab.hear, "one", 0, wrong, length=wrong)
        self.assert_raises_just(BadLength, wrong, lab.hear, "one", 0, (None,), length=wrong)
        self.assert_raises_just(Taken, name, lab.begin, name, wrong, word="name")
        self.assert_raises_just(Taken, "w", lab.watch, "w", wrong, wrong, word="name")
        self.assert_raises_just(Closed, name, lab.close, name, word="name")
        self.assert_raises_just(NoStrand, wrong, lab.trust, name, wrong, wrong, wrong)


if __name__ == "__main__":
    unittest.main()

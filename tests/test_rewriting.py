"""Section 14: rewritings, the images of runs, and questions that are led."""

import inspect
import itertools
import random
import unittest

from fitruns import rewriting as module
from fitruns.errors import BadImages, BadQuestion, BadRun
from fitruns.programs import Program
from fitruns.questions import is_question, worth
from fitruns.rewriting import Rewriting
from fitruns.totals import bounds
from tests import plain, plain_lab
from tests.samples import ALONE, DIAMOND, FULL, LOOPS, LOST, RING, ROUNDS, STAYS, TWO_WAYS, WAITS, free_sheet, some_program
from tests.support import ANY_VALUES, FitTest, twists
from tests.test_questions import judged_question

GO = (("go", (), ("fast", "slow")), ("fast", (), ()), ("slow", (), ()))
IMAGES = (("in",), ("cold", "out"), ("hot", "out"))
MISS = (("kind", "miss", 1),)


def matched_images(draw, elder, newer):
    """Images that go on from step to step as often as chance finds such ones."""
    names = [step[0] for step in newer]
    told = {names[0]: draw.choice(((), plain.runs_of(elder, 1)[0], draw.choice(plain.runs_of(elder, 2) or [()])))}
    behind = {names[0]: told[names[0]][-1] if told[names[0]] else None}
    for _ in names:
        for name in names:
            for later in plain.step_of(newer, name)[2]:
                if name in told and later not in told:
                    told[later] = some_way(draw, elder, behind[name], not plain.step_of(newer, later)[2])
                    behind[later] = told[later][-1] if told[later] else behind[name]
    return tuple(told.get(name, ()) for name in names)


def some_way(draw, elder, behind, to_end):
    """Up to four steps that follow this one; up to an end, if chance finds one."""
    for _ in range(12):
        way = ()
        for _ in range(draw.choice((0, 1, 1, 2, 3, 4))):
            following = plain.step_of(elder, way[-1] if way else behind)[2] if way or behind else (elder[0][0],)
            if following:
                way += (draw.choice(following),)
        last = way[-1] if way else behind
        if not to_end or (last is not None and not plain.step_of(elder, last)[2]):
            return way
    return way


def samples(draw, many):
    """Yield (elder, newer, images), drawn by chance."""
    for number in range(many):
        elder = draw.choice((TWO_WAYS, DIAMOND, LOOPS, ROUNDS, ALONE, WAITS, LOST, FULL, RING, some_program(draw), some_program(draw)))
        newer = draw.choice((GO, DIAMOND, ROUNDS, ALONE, STAYS, WAITS, some_program(draw), some_program(draw), some_program(draw)))
        images = matched_images(draw, elder, newer)
        if number % 4 == 0:
            names = [step[0] for step in elder]
            place = draw.randrange(len(images))
            other = tuple(draw.choice(names) for _ in range(draw.choice((0, 1, 2, 4))))
            images = images[:place] + (other,) + images[place + 1:]
        yield elder, newer, images


def made(elder, newer, images):
    return Rewriting(Program(elder), Program(newer), images)


class TestExamples(FitTest):
    def test_the_first_one(self):
        elder = Program((('in', (), ('cold', 'hot')), ('hot', (('miss', 3),), ('out',)), ('cold', (('hit', 2),), ('out',)), ('out', (), ())))
        newer = Program((('go', (), ('fast', 'slow')), ('fast', (), ()), ('slow', (), ())))
        rewriting = Rewriting(elder, newer, (('in',), ('cold', 'out'), ('hot', 'out')))
        self.assert_like(
            [rewriting.image(('go', 'slow')), rewriting.fault(), rewriting.led((('kind', 'miss', 1),)), sorted(rewriting.table())],
            [('in', 'hot', 'out'), None, (('step', 'slow', 3),), [('fast', 'out'), ('go', 'in'), ('slow', 'out')]])

    def test_the_second_one(self):
        elder = Program((('in', (), ('cold', 'hot')), ('hot', (('miss', 3),), ('out',)), ('cold', (('hit', 2),), ('out',)), ('out', (), ())))
        newer = Program((('go', (), ('fast', 'slow')), ('fast', (), ()), ('slow', (), ())))
        self.assert_like(Rewriting(elder, newer, (('in',), ('cold',), ('hot', 'out'))).fault(), ('go', 'fast'))


class TestInterface(FitTest):
    def test_the_class_and_its_methods(self):
        self.assertTrue(inspect.isclass(module.Rewriting))
        self.assertEqual(module.Rewriting.__module__, "fitruns.rewriting")
        for name in ("image", "fault", "table", "shows_faithful", "led", "__eq__", "__init__"):
            self.assertTrue(inspect.isfunction(vars(Rewriting)[name]))

    def test_by_name_and_by_position(self):
        elder, newer = Program(TWO_WAYS), Program(GO)
        rewriting = Rewriting(images=IMAGES, newer=newer, elder=elder)
        self.assertIs(rewriting.elder, elder)
        self.assertIs(rewriting.newer, newer)
        self.assertIs(rewriting.images, IMAGES)
        self.assertEqual(rewriting, Rewriting(elder, newer, IMAGES))
        self.assert_like(rewriting.image(run=("go", "fast")), ("in", "cold", "out"))
        self.assert_like(rewriting.led(question=MISS), rewriting.led(MISS))
        self.assertIs(rewriting.shows_faithful(value=rewriting.table()), True)

    def test_equality(self):
        one = made(TWO_WAYS, GO, IMAGES)
        self.assertTrue(one == made(tuple(list(TWO_WAYS)), tuple(list(GO)), tuple(list(IMAGES))))
        self.assertFalse(one != made(TWO_WAYS, GO, IMAGES))
        renamed = tuple((name, happenings, following) for name, happenings, following in TWO_WAYS[:1] + (("hot", (("miss", 4),), ("out",)),) + TWO_WAYS[2:])
        for other in (made(renamed, GO, IMAGES), made(TWO_WAYS, (("go", (("x", 1),), ("fast", "slow")),) + GO[1:], IMAGES),
                      made(TWO_WAYS, GO, IMAGES[:2] + (("hot",),)), None, IMAGES, "a", 0, (one,), Program(GO), Program(TWO_WAYS)):
            self.assertFalse(one == other)
            self.assertTrue(one != other)
        for value in ANY_VALUES:
            self.assertFalse(one == value)


class TestAgainstAListing(FitTest):
    def setUp(self):
        self.samples = list(samples(random.Random(14), 420))

    def test_images_of_all_short_runs(self):
        for elder, newer, images in self.samples[:150]:
            rewriting = made(elder, newer, images)
            for length in range(1, 5):
                for run in plain.runs_of(newer, length)[:30]:
                    self.assert_like(rewriting.image(run), plain_lab.image(newer, images, run))

    def test_the_shortest_and_least_fault(self):
        lengths = []
        for elder, newer, images in self.samples:
            told, wanted = made(elder, newer, images).fault(), plain_lab.fault(elder, newer, images, 7)
            if told is None or len(told) <= 7:
                self.assert_like(told, wanted, (elder, newer, images))
            else:
                self.assertIsNone(wanted)
                self.assertFalse(plain_lab.is_right(elder, newer, images, told))
            lengths.append(None if told is None else len(told))
        self.assertGreater(lengths.count(None), 60)
        self.assertTrue(all(lengths.count(many) > 20 for many in (1, 2, 3)))

    def test_tables(self):
        for elder, newer, images in self.samples:
            rewriting = made(elder, newer, images)
            table = rewriting.table()
            self.assertEqual(table is None, rewriting.fault() is not None)
            if table is not None:
                self.assertEqual(type(table), tuple)
                self.assertTrue(plain_lab.is_faithful(elder, newer, images, table), (elder, newer, images, table))
                self.assertIs(rewriting.shows_faithful(table), True)
                self.assert_like(rewriting.table(), table)

    def test_a_led_question_tells_of_a_run_what_the_question_tells_of_its_image(self):
        draw = random.Random(141)
        asked = [(), MISS, (("kind", "x", 2), ("kind", "y", -3), ("step", "a", 1), ("step", "none", 9)), (("step", "a", -1), ("step", "in", 4)), (("kind", "x", 1), ("step", "a", -1))]
        gone = 0
        for elder, newer, images in self.samples:
            rewriting, question = made(elder, newer, images), draw.choice(asked)
            told = rewriting.led(question)
            self.assertTrue(is_question(told))
            self.assert_like(told, plain_lab.led(elder, newer, images, question))
            gone += told == ()
            for run in plain.runs_of(newer, draw.randrange(1, 5))[:10]:
                for since, until in ((0, None), (1, 2), (0, 1), (2, None), (1, 3)):
                    part = plain_lab.image(newer, images, run[since:until])
                    self.assertEqual(worth(rewriting.newer, told, run, since=since, until=until), plain.worth(elder, question, part))
        self.assertGreater(gone, 20)


class TestByHand(FitTest):
    def test_a_first_image_that_is_no_run(self):
        for first, right in (((), False), (("in",), True), (("cold",), False), (("in", "in"), False), (("out",), False)):
            told = made(TWO_WAYS, GO, (first,) + IMAGES[1:]).fault()
            self.assert_like(told, None if right else ("go",) if first else ("go", "fast"))

    def test_an_empty_image_ahead(self):
        self.assertIsNone(made(TWO_WAYS, GO, ((), ("in", "cold", "out"), ("in", "hot", "out"))).fault())
        self.assert_like(sorted(made(TWO_WAYS, GO, ((), ("in", "cold", "out"), ("in", "hot", "out"))).table(), key=repr), [("fast", "out"), ("go", None), ("slow", "out")])
        self.assert_like(made(TWO_WAYS, GO, ((), ("in", "cold", "out"), ("hot", "out"))).fault(), ("go", "slow"))
        self.assertIsNone(made(TWO_WAYS, GO, (("in", "hot", "out"), (), ())).fault())

    def test_all_images_empty(self):
        self.assert_like(made(TWO_WAYS, GO, ((), (), ())).fault(), ("go", "fast"))
        self.assertIsNone(made(TWO_WAYS, GO, ((), (), ())).table())
        self.assert_like(made(TWO_WAYS, ALONE, ((),)).fault(), ("only",))
        # No run is whole: nothing has to come to an end.
        self.assertIsNone(made(TWO_WAYS, STAYS, ((),)).fault())
        self.assert_like(made(TWO_WAYS, STAYS, ((),)).table(), (("on", None),))

    def test_a_ring_whose_image_stops_going_on(self):
        steps = (("r", (), ("r", "s")), ("s", (), ()))
        self.assert_like(made(TWO_WAYS, steps, (("in",), ("cold", "out"))).fault(), ("r", "r"))
        self.assertIsNone(made(ROUNDS, (("r", (), ("s",)), ("s", (), ("s", "t")), ("t", (), ())), (("a",), ("b", "a"), ("d",))).fault())
        self.assert_like(made(ROUNDS, (("r", (), ("s",)), ("s", (), ("s", "t")), ("t", (), ())), (("a",), ("b", "a"), ("b",))).fault(), ("r", "s", "t"))

    def test_the_least_of_the_shortest(self):
        steps = (("z", (), ("a", "b", "c")), ("c", (), ()), ("b", (), ("c",)), ("a", (), ("c",)))
        self.assert_like(made(TWO_WAYS, steps, (("in",), ("hot",), ("hot",), ("cold",))).fault(), ("z", "c"))
        self.assert_like(made(TWO_WAYS, steps, (("in",), ("cold", "out"), ("cold", "in"), ("hot", "in"))).fault(), ("z", "a"))
        self.assert_like(made(TWO_WAYS, steps, (("in", "hot", "out"), (), ("in",), ())).fault(), ("z", "b"))
        self.assertIsNone(made(TWO_WAYS, steps, (("in", "hot", "out"), (), (), ())).fault())

    def test_a_fault_that_comes_late(self):
        # Each round goes one step on; the image breaks with the fifth step of the newer program alone.
        chain = tuple((name, (), (later,)) for name, later in zip("abcde", "bcdef")) + (("f", (), ()),)
        rewriting = made(chain, (("r", (), ("s",)), ("s", (), ("s",))), (("a",), ()))
        self.assertIsNone(rewriting.fault())
        steps = (("p", (), ("q",)), ("q", (), ("r",)), ("r", (), ("s",)), ("s", (), ("t",)), ("t", (), ()))
        self.assertIsNone(made(chain, steps, (("a",), ("b",), ("c",), ("d",), ("e", "f"))).fault())
        self.assert_like(made(chain, steps, (("a",), ("b",), ("c",), ("d",), ("e",))).fault(), ("p", "q", "r", "s", "t"))

    def test_a_led_question_asked_of_a_sheet(self):
        rewriting = made(TWO_WAYS, GO, IMAGES)
        self.assert_like(bounds(rewriting.newer, ((("x",), None),), free_sheet(2, ended=True), rewriting.led(MISS)), (0, 3))

    def test_led_without_what_is_worth_nothing(self):
        rewriting = made(TWO_WAYS, GO, IMAGES)
        self.assert_like(rewriting.led(()), ())
        self.assert_like(rewriting.led((("kind", "none", 5), ("step", "fast", 2))), ())
        self.assert_like(rewriting.led((("kind", "hit", 1), ("step", "out", -2))), (("step", "slow", -2),))
        self.assert_like(rewriting.led((("kind", "hit", 1), ("kind", "miss", 1), ("step", "in", 7), ("step", "out", 1))),
                         (("step", "fast", 3), ("step", "go", 7), ("step", "slow", 4)))

    def test_nothing_is_changed(self):
        elder, newer, images = Program(TWO_WAYS), Program(GO), IMAGES
        rewriting = Rewriting(elder, newer, images)
        for _ in range(2):
            told = [rewriting.image(("go",)), rewriting.fault(), rewriting.table(), rewriting.led(MISS), rewriting.shows_faithful(rewriting.table())]
            self.assert_like(told, [("in",), None, rewriting.table(), (("step", "slow", 3),), True])
        self.assertEqual((rewriting.elder.steps, rewriting.newer.steps, rewriting.images), (TWO_WAYS, GO, IMAGES))


class TestShowing(FitTest):
    def assert_judged(self, elder, newer, images, value):
        before = repr(value)
        wanted = plain_lab.is_faithful(elder, newer, images, value)
        self.assertIs(made(elder, newer, images).shows_faithful(value), wanted, (elder, newer, images, value))
        self.assertEqual(repr(value), before)
        return wanted

    def test_any_value_and_one_part_otherwise(self):
        table = made(TWO_WAYS, GO, IMAGES).table()
        verdicts = [self.assert_judged(TWO_WAYS, GO, IMAGES, value) for value in itertools.chain(ANY_VALUES, twists(table))]
        self.assertGreater(verdicts.count(True), 2)
        self.assertGreater(verdicts.count(False), 500)

    def test_pairs_in_another_order_one_less_and_one_twice(self):
        draw = random.Random(142)
        verdicts = []
        for elder, newer, images in samples(draw, 200):
            table = made(elder, newer, images).table()
            if table is None:
                continue
            rows = list(table)
            draw.shuffle(rows)
            self.assertTrue(self.assert_judged(elder, newer, images, tuple(rows)))
            for place in range(len(rows)):
                verdicts.append(self.assert_judged(elder, newer, images, tuple(rows[:place] + rows[place + 1:])))
                verdicts.append(self.assert_judged(elder, newer, images, tuple(rows + rows[place:place + 1])))
            for pair in itertools.product([step[0] for step in newer], [None] + [step[0] for step in elder]):
                verdicts.append(self.assert_judged(elder, newer, images, table + (pair,)))
        self.assertGreater(verdicts.count(True), 40)
        self.assertGreater(verdicts.count(False), 400)

    def test_with_a_fault_nothing_is_a_table(self):
        for elder, newer, images in samples(random.Random(143), 120):
            rewriting = made(elder, newer, images)
            if rewriting.fault() is not None:
                pairs = tuple(itertools.product([step[0] for step in newer], [None] + [step[0] for step in elder]))
                self.assertFalse(self.assert_judged(elder, newer, images, pairs))
                self.assertFalse(self.assert_judged(elder, newer, images, ()))
                self.assertFalse(self.assert_judged(elder, newer, images, None))


class TestErrors(FitTest):
    def test_no_images(self):
        elder, newer = Program(TWO_WAYS), Program(GO)
        values = ANY_VALUES + list(twists(IMAGES)) + [list(IMAGES), IMAGES[:2], IMAGES + ((),), (("in",) * 5, (), ()), (("go",), (), ()), (("in", None), (), ())]
        wrong = [value for value in values if not plain_lab.is_images(TWO_WAYS, GO, value)]
        self.assertGreater(len(wrong), 500)
        for value in wrong:
            self.assert_raises_just(BadImages, value, Rewriting, elder, newer, value)
        right = [value for value in values if plain_lab.is_images(TWO_WAYS, GO, value)]
        for value in right + [(("in",) * 4, (), ("out",) * 3)]:
            self.assert_like(Rewriting(elder, newer, value).images, value)

    def test_no_run(self):
        rewriting = made(TWO_WAYS, GO, IMAGES)
        for value in ANY_VALUES + list(twists(("go", "slow"))):
            if not plain.is_run(GO, value):
                self.assert_raises_just(BadRun, value, rewriting.image, value)

    def test_no_question(self):
        rewriting = made(TWO_WAYS, GO, IMAGES)
        for value in ANY_VALUES + list(twists(MISS)):
            if not judged_question(value):
                self.assert_raises_just(BadQuestion, value, rewriting.led, value)


if __name__ == "__main__":
    unittest.main()

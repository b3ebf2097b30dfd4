"""Section 17: a desk, which leads a lab by lines."""

import inspect
import random
import unittest

from fitruns import desk as module, errors
from fitruns.desk import Desk
from fitruns.errors import (
    BadCount, BadCounts, BadLength, BadLine, BadPlan, BadQuestion, BadTick, Closed, NoCase, NoReading, NoStrand, NothingToUndo, NoWatch, Over, Stuck, Taken, TooLong, Uneven,
)
from fitruns.fitting import fitting, how_many, where
from fitruns.lab import Lab
from fitruns.programs import Program
from fitruns.twins import unsure
from tests import plain_lab, plain_texts
from tests.samples import ROUNDS, STAYS, TICK, TWO_WAYS
from tests.support import ANY_VALUES
from tests.test_lab import ASKED, HIT, LabTest, Story, new_lab, seen, some_lab
from tests.test_texts import ODD_NUMBERS

RIGHT = (
    "begin new 2 miss ; 1 -", "begin new 2 miss ; 1 - | 3 -", "hear one 0 -", "hear one 0 3", "short one 0 1 -", "close one", "doubt one 0 0 0", "trust one 0 0 0", "drop one",
    "watch v 0 kind x 1", "watch v 0 -", "watch v 5 kind x 1 , step in -2", "unwatch w", "undo", "told one kind hit 1", "told one -", "run one", "where one 0", "many one",
    "cases", "deeds", "unsure 2 miss ; 1 - ? kind hit 1", "unsure 3 - ? -",
)


def state(desk):
    return (repr(seen(desk.lab)), desk.lab.news, desk.lab.deeds)


class TestExamples(LabTest):
    def lab(self):
        steps = (('in', (), ('cold', 'hot')), ('hot', (('miss', 3),), ('out',)), ('cold', (('hit', 2),), ('out',)), ('out', (), ()))
        return Lab(Program(steps), ((('hit', 'miss'), None),))

    def test_the_first_one(self):
        desk = Desk(self.lab())
        told = [desk.say('begin one 2 miss ; 1 -'), desk.say('watch w 0 kind hit 1'), desk.say('hear one 0 3')]
        self.assert_like(
            told + [desk.say('told one kind hit 1'), desk.say('run one'), desk.say('where one 1'), desk.say('many one'), desk.say('undo')],
            ['done', 'done', 'done w:one:0..0', '0..0', 'in hot', 'hot', '1', 'done w:one:-'])

    def test_the_second_one(self):
        desk = Desk(self.lab())
        self.assert_like([desk.say('unsure 2 miss ; 1 - ? kind hit 1'), desk.say('unsure 3 - ? kind hit 1'), desk.say('cases')], ['0', '2', '-'])

    def test_the_third_one(self):
        self.assert_raises_just(BadLine, 'hear one', Desk(self.lab()).say, 'hear one', word="line")


class TestInterface(LabTest):
    def test_the_class(self):
        self.assertTrue(inspect.isclass(module.Desk))
        self.assertEqual(module.Desk.__module__, "fitruns.desk")
        for name in ("say", "__init__"):
            self.assertTrue(inspect.isfunction(vars(Desk)[name]))

    def test_by_name_and_by_position(self):
        lab = new_lab()
        for desk in (Desk(lab), Desk(lab=lab)):
            self.assertIs(desk.lab, lab)
            self.assert_like(desk.say(line="deeds"), "0")


class TestLines(LabTest):
    def desk(self):
        return Desk(some_lab())

    def test_deeds(self):
        desk = Desk(new_lab())
        for line, answer in (("begin one 2 miss ; 1 -", "done"), ("watch w 0 kind hit 1", "done"), ("watch all 9 -", "done"), ("begin two 1 - | 2 - ; 1 hit", "done"),
                             ("hear one 0 3", "done all:one:0..0 w:one:0..0"), ("watch v 2 kind hit 1 , kind miss 1", "done v:one:3..3"),
                             ("doubt one 0 0 0", "done w:one:0..2"), ("trust one 0 0 0", "done w:one:0..0"), ("short two 1 1 -", "done"), ("hear two 0 -", "done all:two:0..0 v:two:0..0 w:two:0..0"),
                             ("hear two 0 -", "done all:two:- v:two:- w:two:-"), ("unwatch v", "done v:one:-"), ("hear one 0 -", "done"), ("close one", "done"),
                             ("drop one", "done all:one:- w:one:-"), ("undo", "done all:one:0..0 w:one:0..0"), ("cases", "one two"), ("deeds", "14"),
                             ("undo", "done"), ("undo", "done"), ("undo", "done v:one:3..3")):
            self.assert_like(desk.say(line), answer, line)

    def test_what_is_asked(self):
        desk = Desk(Lab(Program(ROUNDS), ((("x", "y"), None),)))
        self.assert_like([desk.say("cases"), desk.say("deeds")], ["-", "0"])
        for line in ("begin b 3 x ; 2 -", "begin a 1 - | 1 y", "hear b 0 1", "short b 0 1 -"):
            self.assert_like(desk.say(line), "done")
        for line, answer in (("told b kind x 1", "1..2"), ("told b kind y 1", "0..5"), ("told b kind y -1", "-5..0"), ("told b -", "0..0"), ("run b", "a b a b"), ("where b 3", "b c d"),
                             ("where b 0", "a"), ("many b", "3"), ("cases", "a b"), ("deeds", "4"), ("unsure 2 - ? kind x 1", "grows"), ("unsure 2 x ? kind x 1", "0"),
                             ("unsure 1 x ; 1 - ; 3 y ? step c 1 , step d -1", "grows"), ("told b step a 1 , step b 10", "12..22")):
            self.assert_like(desk.say(line), answer, line)
        self.assert_like(desk.say("close b"), "done")
        self.assert_like([desk.say("run b"), desk.say("where b 3"), desk.say("many b")], ["a b a d", "d", "1"])
        desk = Desk(new_lab(STAYS, TICK))
        self.assert_like([desk.say("unsure 3 - ? kind tick 1"), desk.say("unsure 3 tick ? -")], ["none", "none"])

    def test_rows_of_news_and_bounds_below_nothing(self):
        desk = Desk(new_lab())
        desk.say("begin a 3 - | 3 -")
        desk.say("watch w 5 kind hit -2")
        desk.say("hear a 1 -")
        self.assert_like([desk.say("hear a 0 -"), desk.say("told a kind hit -2"), desk.say("undo")], ["done w:a:-4..0", "-4..0", "done w:a:-"])

    def test_turns_plans_and_dashes(self):
        desk = Desk(new_lab(TWO_WAYS, ((("hit", "miss"), None), (("hit",), 4))))
        for line, plans in (("begin a 1 - -", (((1, (None, None)),),)), ("begin b 8 miss hit ; 1 - hit ; 2 hit - ; 3 - - | 4 hit hit", None)):
            self.assert_like(desk.say(line), "done")
            if plans is not None:
                same = new_lab(TWO_WAYS, desk.lab.counters)
                same.begin("a", plans)
                self.assertEqual(desk.lab, same)
        same.begin("b", (((8, ("miss", "hit")), (1, (None, "hit")), (2, ("hit", None)), (3, (None, None))), ((4, ("hit", "hit")),)))
        self.assertEqual(desk.lab, same)
        self.assert_like(desk.say("short b 0 2 3 0"), "done")
        same.hear("b", 0, (3, 0), length=2)
        self.assert_like(desk.say("hear a 0 - -"), "done")
        same.hear("a", 0, (None, None))
        self.assertEqual(desk.lab, same)

    def test_a_lab_that_is_led_by_the_same_calls_remains_equal(self):
        said = 0
        for seed in range(400, 440):
            story = Story(self, seed)
            desk = Desk(Lab(Program(story.model.begun[0]), story.counters))
            for _ in range(25):
                word, args = story.some_deed()
                line = self.line_of(word, args)
                if line is None:
                    continue
                said += 1
                if word == "undo":
                    told = story.lab.undo() if story.lab.deeds else "NothingToUndo"
                    if story.lab.deeds or told != "NothingToUndo":
                        self.assert_answer(desk, line, story.lab)
                    else:
                        self.assertIs(type(self.caught(desk.say, line)), NothingToUndo)
                    if story.model.deeds:
                        story.model.undo()
                    continue
                wanted = story.caught(story.lab, word, args)
                story.model.do(word, args)
                if wanted is None:
                    self.assert_answer(desk, line, story.lab)
                else:
                    before = state(desk)
                    error = self.caught(desk.say, line)
                    self.assert_like((type(error).__name__, list(vars(error).values())[0]), wanted)
                    self.assertEqual(state(desk), before)
                self.assert_asked(desk, story)
            self.assertEqual(desk.lab, story.lab)
        self.assertGreater(said, 500)

    def assert_answer(self, desk, line, lab):
        news = [f"{watch}:{case}:" + ("-" if now is None else f"{now[0]}..{now[1]}") for watch, case, _, now in lab.news]
        self.assert_like(desk.say(line), " ".join(["done"] + news))
        self.assertEqual((desk.lab, desk.lab.deeds, desk.lab.news), (lab, lab.deeds, lab.news))

    def assert_asked(self, desk, story):
        lab = story.lab
        self.assert_like([desk.say("cases"), desk.say("deeds")], [" ".join(lab.cases) or "-", str(lab.deeds)])
        for name, case in story.model.scene()[1].items():
            question = story.draw.choice(story.QUESTIONS)
            lines = (f"told {name} {plain_texts.shown_question(question)}", f"run {name}", f"many {name}", f"where {name} 0")
            if not plain_lab.stands(case):
                for line in lines:
                    self.assert_raises_just(Uneven, self, desk.say, line, word="ticks", held_like=plain_lab.ticks_of(case["heard"]))
                continue
            args = (lab.program, lab.counters, lab.sheet(name))
            low, high = lab.told(name, question)
            self.assert_like([desk.say(line) for line in lines], [f"{low}..{high}", " ".join(fitting(*args)), str(how_many(*args)), lab.program.names[0]])
            ticks = plain_lab.ticks_of(case["heard"])[0]
            for tick in (1, ticks - 1):
                if tick < ticks:
                    self.assert_like(desk.say(f"where {name} {tick}"), " ".join(where(*args, tick)))
            self.assert_raises_just(BadTick, self, desk.say, f"where {name} {ticks}", held_like=ticks)

    def line_of(self, word, args):
        """The line of a deed, None if none can tell it."""
        if not all(type(part) is str and part.isalpha() and part.islower() for part in args[:1]):
            return None
        if word == "begin":
            if type(args[1]) is not tuple or len(args[1]) not in (1, 2) or not all(type(plan) is tuple and plan and type(plan[0]) is tuple for plan in args[1]):
                return None
            plans = [" ; ".join(" ".join([str(length)] + plain_texts.dashed(setting)) for length, setting in plan) for plan in args[1]]
            return f"begin {args[0]} " + " | ".join(plans)
        if word == "hear":
            name, strand, counts, length = args
            if type(counts) is not tuple or not counts or not all(count is None or type(count) is int for count in counts) or type(strand) is not int:
                return None
            if length is not None and type(length) is not int:
                return None
            head = ["hear", name, str(strand)] if length is None else ["short", name, str(strand), str(length)]
            return " ".join(head + plain_texts.dashed(counts))
        if word in ("doubt", "trust"):
            return " ".join([word, args[0]] + [str(part) for part in args[1:]]) if all(type(part) is int for part in args[1:]) else None
        if word == "watch":
            if type(args[1]) is not tuple or type(args[2]) is not int:
                return None
            return f"watch {args[0]} {args[2]} {plain_texts.shown_question(args[1])}"
        if word == "turn_to":
            return None
        return " ".join([word] + list(args))


class TestBadLines(LabTest):
    def assert_bad(self, desk, line):
        before = state(desk)
        self.assert_raises_just(BadLine, line, desk.say, line, word="line")
        self.assertEqual(state(desk), before)

    def test_the_right_ones(self):
        for line in RIGHT:
            error = self.caught(Desk(some_lab()).say, line)
            self.assertIsNot(type(error), BadLine, line)

    def test_any_value(self):
        desk = Desk(some_lab())
        for value in ANY_VALUES + [(line,) for line in RIGHT] + [[line] for line in RIGHT] + [None, b"cases"]:
            self.assert_bad(desk, value)

    def test_one_word_more_less_or_otherwise(self):
        desk, wrong = Desk(some_lab()), 0
        forms = Forms()
        for line in RIGHT:
            words = line.split(" ")
            others = [words[:place] + words[place + 1:] for place in range(len(words))]
            for odd in ("", "-", "x", "X", "7", "-1", "?", "|", ";", ",", "0x", "abcdefghi", "kind", "begin") + ODD_NUMBERS:
                others += [words[:place] + [odd] + words[place:] for place in range(len(words) + 1)]
                others += [words[:place] + [odd] + words[place + 1:] for place in range(len(words))]
            others += [words[:place] + words[place:place + 1] + words[place:] for place in range(len(words))]
            for other in others:
                text = " ".join(other)
                if forms.is_right(text):
                    error = self.caught(Desk(some_lab()).say, text)
                    self.assertIsNot(type(error), BadLine, text)
                    self.assertTrue(error is None or isinstance(error, errors.FitError), text)
                else:
                    wrong += 1
                    self.assert_bad(desk, text)
        self.assertGreater(wrong, 3000)

    def test_signs_otherwise(self):
        desk, draw, forms = Desk(some_lab()), random.Random(17), Forms()
        for line in RIGHT:
            for other in (line + " ", " " + line, line + "\n", "\n" + line, line.upper(), line.replace(" ", "  "), line.replace(" ", "\t"), line[:-1] + "\u0661", line + "\x00"):
                if other != line:
                    self.assert_bad(desk, other) if not forms.is_right(other) else None
            for _ in range(40):
                place = draw.randrange(len(line) + 1)
                other = line[:place] + draw.choice(" -;|?,.0aA\n:*") + line[place + draw.randrange(2):]
                if not forms.is_right(other):
                    self.assert_bad(desk, other)

    def test_three_plans(self):
        desk = Desk(new_lab())
        for line in ("begin a 1 - | 1 - | 1 -", "begin a", "begin a |", "begin a 1 - |", "begin a | 1 -", "begin a 1 - ; | 1 -", "begin a ; 1 -", "begin a 1 -;1 -", "begin a 1"):
            self.assert_bad(desk, line)


class Forms:
    """The forms of lines, restated by regular expressions."""

    def __init__(self):
        import re
        number, name, question = plain_texts.NUMBER, plain_texts.NAME, plain_texts.QUESTION
        plan = f"{number} {plain_texts.SETTING}(?: ; {number} {plain_texts.SETTING})*"
        counts = f"(?:-|{number})(?: (?:-|{number}))*"
        self.match = re.fullmatch
        self.forms = (
            f"begin {name} {plan}(?: [|] {plan})?", f"hear {name} {number} {counts}", f"short {name} {number} {number} {counts}", f"(?:close|drop|unwatch|run|many) {name}",
            f"(?:doubt|trust) {name} {number} {number} {number}", f"watch {name} {number} {question}", "undo|cases|deeds", f"told {name} {question}", f"where {name} {number}",
            f"unsure {plan} [?] {question}",
        )

    def is_right(self, line):
        return any(self.match(form, line) for form in self.forms)


class TestErrors(LabTest):
    def test_errors_of_the_methods_and_functions(self):
        two = ("two", "name")
        for line, kind, held, word in (
                ("begin one 1 -", Taken, "one", "name"), ("begin new 9 -", BadPlan, ((9, (None,)),), "value"), ("begin new 1 - | 0 -", BadPlan, ((0, (None,)),), "value"),
                ("begin new 1 hit hit", BadPlan, ((1, ("hit", "hit")),), "value"), ("begin new 1 - ; 1 - ; 1 - ; 1 - ; 1 -", BadPlan, ((1, (None,)),) * 5, "value"),
                ("hear new 0 3", NoCase, "new", "value"), ("hear two 0 -", Closed) + two, ("hear one 1 -", NoStrand, 1, "value"), ("hear one -1 -", NoStrand, -1, "value"),
                ("hear one 0 3", BadCounts, (3,), "value"), ("hear one 0 - -", BadCounts, (None, None), "value"), ("hear one 0 -3", BadCounts, (-3,), "value"),
                ("short one 0 2 -", BadLength, 2, "value"), ("short one 0 0 -", BadLength, 0, "value"), ("short one 0 -1 -", BadLength, -1, "value"),
                ("close new", NoCase, "new", "value"), ("close two", Closed) + two, ("doubt one 0 1 0", NoReading, (1, 0), "value"), ("doubt one 2 0 0", NoStrand, 2, "value"),
                ("doubt one 0 -1 0", NoReading, (-1, 0), "value"), ("trust one 0 0 0", NoReading, (0, 0), "value"), ("drop new", NoCase, "new", "value"),
                ("watch w 0 -", Taken, "w", "name"), ("watch v -1 -", BadCount, -1, "value"), ("watch v 0 kind x 0", BadQuestion, (("kind", "x", 0),), "value"),
                ("watch v -1 kind x 0", BadQuestion, (("kind", "x", 0),), "value"), ("watch v 0 step a 1 , kind a 1", BadQuestion, (("step", "a", 1), ("kind", "a", 1)), "value"),
                ("unwatch v", NoWatch, "v", "value"), ("told new -", NoCase, "new", "value"), ("told one kind x 0", BadQuestion, (("kind", "x", 0),), "value"),
                ("run new", NoCase, "new", "value"), ("where new 0", NoCase, "new", "value"), ("where one 2", BadTick, 2, "value"), ("where one -1", BadTick, -1, "value"),
                ("many new", NoCase, "new", "value"), ("unsure 9 - ? -", BadPlan, ((9, (None,)),), "value"), ("unsure 1 x ? kind x 0", BadPlan, ((1, ("x",)),), "value"),
                ("unsure 1 - ? kind x 0", BadQuestion, (("kind", "x", 0),), "value")):
            desk = Desk(some_lab())
            before = state(desk)
            self.assert_raises_just(kind, self, desk.say, line, word=word, held_like=held)
            self.assertEqual(state(desk), before)

    def test_errors_of_what_was_heard(self):
        desk = Desk(new_lab())
        desk.say("begin a 2 miss ; 1 -")
        self.assert_raises_just(Stuck, self, desk.say, "hear a 0 7", word="t", held_like=2)
        self.assert_raises_just(Uneven, self, desk.say, "close a", word="ticks", held_like=(0,))
        self.assert_raises_just(Uneven, self, desk.say, "told a kind x 0", word="ticks", held_like=(0,))
        desk.say("short a 0 1 0")
        self.assert_raises_just(Over, self, desk.say, "hear a 0 -", word="strand", held_like=0)
        self.assert_raises_just(Stuck, self, desk.say, "close a", word="t", held_like=1)
        desk = Desk(new_lab(STAYS, TICK))
        desk.say("begin a 8 tick")
        for _ in range(5):
            self.assert_like(desk.say("hear a 0 8"), "done")
        self.assert_raises_just(TooLong, self, desk.say, "hear a 0 8", word="ticks", held_like=48)
        self.assert_raises_just(TooLong, self, desk.say, "short a 0 3 3", word="ticks", held_like=43)

    def test_nothing_to_undo(self):
        desk = Desk(new_lab())
        self.assertIs(type(self.caught(desk.say, "undo")), NothingToUndo)
        desk.say("watch w 0 -")
        self.assert_like(desk.say("undo"), "done")
        self.assertIs(type(self.caught(desk.say, "undo")), NothingToUndo)

    def test_unsure_tells_what_the_function_tells(self):
        desk = Desk(new_lab())
        for plan, text in ((((2, ("miss",)), (1, (None,))), "2 miss ; 1 -"), (((3, (None,)),), "3 -"), (((8, ("hit",)),), "8 hit")):
            told = unsure(desk.lab.program, HIT, plan, ASKED)
            self.assert_like(desk.say(f"unsure {text} ? kind hit 1"), str(told[1]))


if __name__ == "__main__":
    unittest.main()

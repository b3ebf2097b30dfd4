"""Section 16: texts of programs, counters, plans, records, questions and labs."""

import inspect
import random
import unittest

from fitruns import errors, texts as module
from fitruns.errors import BadCounters, BadText
from fitruns.lab import Lab
from fitruns.programs import Program
from fitruns.texts import (
    read_counters, read_lab, read_plan, read_program, read_question, read_record, show_counters, show_lab, show_plan, show_program, show_question, show_record,
)
from tests import plain, plain_texts
from tests.samples import ALONE, COUNTERS, DIAMOND, FULL, LOOPS, NONE, PROGRAMS, STAYS, TICK, TWO, TWO_WAYS, some_plan, some_program
from tests.support import ANY_VALUES, FitTest, twists
from tests.test_lab import ASKED, BOTH, HIT, PLANS, LabTest, Story, new_lab, seen, some_lab
from tests.test_questions import RIGHT as QUESTIONS

STEPS = "step in > cold hot\nstep hot miss*3 > out\nstep cold hit*2 > out\nstep out >"
LAB = STEPS + """
counter hit miss
case one
strand
turn 2 miss
turn 1 -
heard 2 miss = 3
closed two
strand
turn 2 miss
turn 1 -
heard 2 miss = 0
heard 1 - = -
strand
turn 1 -
turn 2 hit
heard 1 - = -
heard 2 hit = 2
watch w 0 kind hit 1"""
# Two counters, cases of all sorts, what is left out, and watches without and with several items.
RICH = """step a x*1 > b c
step b x*2 y*1 > d
step c y*3 > d
step d >
counter x y
counter y / 4
case free
strand
turn 3 - y
case q
strand
turn 1 x -
turn 1 y y
heard 1 x - = 1 -
heard 1 y y = 3 3
left 0 0
left 1 1
strand
turn 8 - -
heard 2 - - = - -
closed z
strand
turn 2 x y
heard 2 x y = 3 1
heard 1 x y = 0 0
left 0 0
watch u 7 -
watch v 0 kind x 2 , step d -1"""
NAMES = ("show_program", "show_counters", "show_plan", "show_record", "show_question", "show_lab",
         "read_program", "read_counters", "read_plan", "read_record", "read_question", "read_lab")
ODD_NUMBERS = ("00", "-0", "01", "+1", "1.0", "1e1", "", "x", "-", "--1", "1234567890123456789", "-1234567890123456789", "\u0661", "\u00b2", " 1", "1 ", "1_0")


def twisted_lines(draw, text, many):
    """Texts with a sign, a word or a line put in, left out, exchanged or twice."""
    words = sorted(set(text.replace("\n", " ").split(" "))) + ["-", "0", "-1", "9", ">", "=", "/", ",", "*", "x*1", "zz", "A", "", "01", "-0", "step", "case", "strand", "turn", "left", "1" * 18, "1" * 19]
    for _ in range(many):
        lines = [line.split(" ") for line in text.split("\n")]
        at = draw.randrange(len(lines))
        place = draw.randrange(len(lines[at]))
        way = draw.randrange(10)
        if way == 0:
            lines[at].insert(place, draw.choice(words))
        elif way == 1:
            del lines[at][place]
        elif way in (2, 3):
            lines[at][place] = draw.choice(words)
        elif way == 4:
            lines[at].insert(place, lines[at][place])
        elif way == 5:
            del lines[at]
        elif way == 6:
            lines.insert(draw.randrange(len(lines) + 1), list(draw.choice(lines)))
        elif way == 7:
            other = draw.randrange(len(lines))
            lines[at], lines[other] = lines[other], lines[at]
        elif way == 8:
            word = lines[at][place]
            cut = draw.randrange(len(word) + 1)
            lines[at][place] = word[:cut] + draw.choice((" ", "\n", "-", "0", "a", "*", "A", "\t", "\r", "")) + word[cut + draw.randrange(2):]
        else:
            lines = lines[:at]
        yield "\n".join(" ".join(line) for line in lines)


class TextTest(LabTest):
    def told(self, function, *args):
        """("value", what it returns), or the name of the error and what it holds."""
        before = repr(args)
        try:
            told = ("value", function(*args))
        except errors.FitError as error:
            self.assertIsNone(error.__context__)
            self.assertIsNone(error.__cause__)
            told = (type(error).__name__, list(vars(error).values())[0])
        self.assertEqual(repr(args), before)
        return told

    def judged_lab(self, text):
        wanted, told = plain_texts.read_lab(text), self.told(read_lab, text)
        if wanted[0] != "value":
            self.assert_like(told, wanted, text)
            return wanted[0]
        self.assertEqual(told[0], "value", (text, told))
        lab = told[1]
        steps, counters, cases, watches = wanted[1]
        self.assertEqual((lab.program.steps, lab.counters, lab.deeds, lab.news), (steps, counters, 0, ()))
        self.assert_like(show_lab(lab), plain_texts.shown_lab(steps, counters, cases, watches))
        self.assertEqual(read_lab(show_lab(lab)), lab)
        return "value"

    def judged(self, sort, function, text, counters=None):
        wanted = plain_texts.read(sort, text, counters)
        told = self.told(function, text) if counters is None else self.told(function, counters, text)
        if sort == "step" and told[0] == "value":
            told = ("value", told[1].steps)
        self.assert_like(told, wanted, text)
        return wanted[0]


class TestExamples(TextTest):
    def test_the_first_one(self):
        steps = (('in', (), ('cold', 'hot')), ('hot', (('miss', 3),), ('out',)), ('cold', (('hit', 2),), ('out',)), ('out', (), ()))
        counters = ((('hit', 'miss'), None),)
        text = show_program(Program(steps))
        self.assert_like(
            [text, read_program(text) == Program(steps), show_question((('kind', 'hit', 1), ('step', 'out', -2))), show_record(((2, ('miss',), (3,)),)), read_plan(counters, 'turn 2 miss\nturn 1 -')],
            ['step in > cold hot\nstep hot miss*3 > out\nstep cold hit*2 > out\nstep out >', True, 'kind hit 1 , step out -2', 'heard 2 miss = 3', ((2, ('miss',)), (1, (None,)))])

    def test_the_second_one(self):
        self.assert_raises_just(BadText, 0, read_question, 'kind hit', word="line")


class TestInterface(TextTest):
    def test_the_functions_are_defined_in_their_file(self):
        for name in NAMES:
            function = getattr(module, name)
            self.assertTrue(inspect.isfunction(function))
            self.assertEqual(function.__module__, "fitruns.texts")

    def test_arguments_by_name(self):
        self.assert_like(show_program(program=Program(ALONE)), "step only x*2 >")
        self.assert_like(show_counters(counters=HIT), "counter hit miss")
        self.assert_like(show_plan(plan=PLANS[0]), "turn 2 miss\nturn 1 -")
        self.assert_like(show_record(record=((1, (None,), (None,)),)), "heard 1 - = -")
        self.assert_like(show_question(question=()), "-")
        self.assert_like(show_lab(lab=new_lab()), STEPS + "\ncounter hit miss")
        self.assertEqual(read_program(text="step only x*2 >"), Program(ALONE))
        self.assert_like(read_counters(text="counter hit miss"), HIT)
        self.assert_like(read_plan(text="turn 2 miss\nturn 1 -", counters=HIT), PLANS[0])
        self.assert_like(read_record(text="heard 1 - = -", counters=HIT), ((1, (None,), (None,)),))
        self.assert_like(read_question(text="-"), ())
        self.assertEqual(read_lab(text=LAB), some_lab())


class TestShown(TextTest):
    def test_by_hand(self):
        self.assert_like(show_program(Program(LOOPS)), "step m x*1 z*2 > a m z\nstep z > b\nstep a y*2 > m z\nstep lost x*5 > b lost m\nstep b x*4 y*1 >")
        self.assert_like(show_counters(TWO), "counter x y\ncounter y / 4")
        self.assert_like(show_counters(((("a", "b", "c"), 999), (("z",), 2), (("z",), None))), "counter a b c / 999\ncounter z / 2\ncounter z")
        self.assert_like(show_plan(((8, ("x", None)), (1, (None, "y")), (2, ("y", "y")), (3, (None, None)))), "turn 8 x -\nturn 1 - y\nturn 2 y y\nturn 3 - -")
        self.assert_like(show_record(((3, ("x", None), (12, None)), (1, (None, None), (None, None)))), "heard 3 x - = 12 -\nheard 1 - - = - -")
        self.assert_like(show_question((("kind", "a", -3), ("kind", "b", 1), ("step", "a", 999999999999999999))), "kind a -3 , kind b 1 , step a 999999999999999999")
        self.assert_like(show_lab(some_lab()), LAB)

    def test_each_sort_is_read_back(self):
        draw = random.Random(16)
        for steps in PROGRAMS + tuple(some_program(draw) for _ in range(40)):
            text = show_program(Program(steps))
            self.assert_like(text, plain_texts.shown("step", steps))
            self.assertEqual(read_program(text), Program(steps))
            self.assert_like(read_program(text).steps, steps)
        for counters in COUNTERS + (HIT, NONE, TICK, TWO):
            text = show_counters(counters)
            self.assert_like(text, plain_texts.shown("counter", counters))
            self.assert_like(read_counters(text), counters)
            for _ in range(10):
                plan = some_plan(draw, counters)
                text = show_plan(plan)
                self.assert_like(text, plain_texts.shown("turn", plan))
                self.assert_like(read_plan(counters, text), plan)
                run = draw.choice(plain.runs_of(FULL, 5))
                record = plain.record_of(FULL, counters, plan, run)
                text = show_record(record)
                self.assert_like(text, plain_texts.shown("heard", record))
                self.assert_like(read_record(counters, text), record)
        for question in QUESTIONS:
            text = show_question(question)
            self.assert_like(text, plain_texts.shown_question(question))
            self.assert_like(read_question(text), question)

    def test_labs_are_read_back(self):
        shown = set()
        for seed in range(300, 380):
            story = Story(self, seed)
            for _ in range(24):
                story.go_on()
                text = show_lab(story.lab)
                steps, cases, watches = story.model.scene()
                self.assert_like(text, plain_texts.shown_lab(steps, story.counters, cases, watches))
                if text in shown:
                    continue
                shown.add(text)
                lab = read_lab(text)
                self.assertEqual(lab, story.lab)
                self.assert_like((lab.deeds, lab.news), (0, ()))
                self.assert_like(show_lab(lab), text)
                self.assertEqual(repr(seen(lab)), repr(seen(story.lab)))
        self.assertGreater(len(shown), 200)

    def test_a_lab_that_is_read_back_hears_on(self):
        one, other = some_lab(), read_lab(LAB)
        for lab in (one, other):
            self.assert_like((lab.deeds, lab.cases), (one.deeds, ("one", "two")) if lab is one else (0, ("one", "two")))
            lab.hear("one", 0, (None,))
            lab.close("one")
            lab.doubt("two", 1, 1, 0)
            self.assertEqual(lab.undo(), "doubt")
            lab.trial()
        self.assertEqual(one, other)
        self.assertEqual([other.undo() for _ in range(2)], ["close", "hear"])
        self.assert_raises_nothing_to_undo(other)
        self.assertEqual(other, some_lab())


class TestForms(TextTest):
    """Each read function against the document's forms, restated."""

    def test_what_is_no_string(self):
        for value in ANY_VALUES:
            if type(value) is not str:
                for function in (read_program, read_counters, read_question, read_lab):
                    self.assert_raises_just(BadText, self, function, value, word="line", held_like=0)
                for function in (read_plan, read_record):
                    self.assert_raises_just(BadText, self, function, HIT, value, word="line", held_like=0)

    def test_any_string_and_the_empty_text(self):
        for text in [value for value in ANY_VALUES if type(value) is str] + ["\n", " ", "\n\n", "step", "step a", "step a >\n", "step a >", "-", "--", "counter", "turn", "heard", "strand"]:
            self.judged("step", read_program, text)
            self.judged("counter", read_counters, text)
            self.judged("turn", read_plan, text, HIT)
            self.judged("heard", read_record, text, HIT)
            self.judged_lab(text)
            self.assert_like(self.told(read_question, text), plain_texts.read_question(text))
        for function in (read_program, read_counters, read_question, read_lab):
            self.assert_raises_just(BadText, self, function, "", word="line", held_like=0)

    def test_a_line_feed_at_the_end_begins_an_empty_line(self):
        self.assert_raises_just(BadText, self, read_program, STEPS + "\n", word="line", held_like=4)
        self.assert_raises_just(BadText, self, read_counters, "counter x\n", word="line", held_like=1)
        self.assert_raises_just(BadText, self, read_plan, HIT, "turn 2 miss\n", word="line", held_like=1)
        self.assert_raises_just(BadText, self, read_record, HIT, "heard 2 miss = 1\n", word="line", held_like=1)
        self.assert_raises_just(BadText, self, read_question, "-\n", word="line", held_like=1)
        self.assert_raises_just(BadText, self, read_lab, LAB + "\n", word="line", held_like=LAB.count("\n") + 1)

    def test_numbers(self):
        lines = (("step", read_program, "step a x*{} >", None), ("counter", read_counters, "counter x / {}", None), ("turn", read_plan, "turn {} miss", HIT),
                 ("heard", read_record, "heard {} miss = 1", HIT), ("heard", read_record, "heard 1 miss = {}", HIT))
        for sort, function, form, counters in lines:
            for word in ODD_NUMBERS:
                if not (word == "-" and form.endswith("= {}")):
                    self.assertEqual(self.judged(sort, function, form.format(word), counters), "BadText", (form, word))
            for word in ("0", "-1", "1", "5", "10", "999999999999999999", "-999999999999999999", "100000000000000000"):
                self.assertNotEqual(self.judged(sort, function, form.format(word), counters), "BadText", (form, word))
        for word in ODD_NUMBERS:
            self.assert_raises_just(BadText, self, read_question, "kind a " + word, word="line", held_like=0)
            self.assert_raises_just(BadText, self, read_lab, LAB.replace("watch w 0", "watch w " + word), word="line", held_like=LAB.count("\n"))
        self.assert_like(read_question("kind a -999999999999999999"), (("kind", "a", -999999999999999999),))

    def test_counters_with_more_than_one_size(self):
        for line, right in (("counter a / 2", True), ("counter a / 2 / 3", False), ("counter a / 2 3", False), ("counter a /", False), ("counter / 2", False), ("counter a / b", False),
                            ("counter a 2", False), ("counter a -", False), ("counter a / - / 2", False), ("counter a / 2 b", False)):
            self.assertEqual(self.judged("counter", read_counters, line), "value" if right else "BadText", line)

    def test_what_the_lines_tell(self):
        for text in ("step a > b", "step a >\nstep a >", "step a x*0 >", "step a x*6 >", "step a x*-1 >", "step b > c a\nstep a >\nstep c >", "step a x*1 x*2 >", "step a y*1 x*1 >",
                     "step a > a a", "step a > a b c d\nstep b >\nstep c >\nstep d >"):
            self.assertEqual(self.judged("step", read_program, text), "BadProgram")
        for text in ("counter b a", "counter a a", "counter a / 1", "counter a / 1000", "counter a / -2", "\n".join(["counter a"] * 4)):
            self.assertEqual(self.judged("counter", read_counters, text), "BadCounters")
        for text in ("turn 0 miss", "turn 9 miss", "turn -1 miss", "turn 1 x", "turn 1 miss hit", "\n".join(["turn 1 -"] * 5)):
            self.assertEqual(self.judged("turn", read_plan, text, HIT), "BadPlan")
        for text in ("heard 0 miss = 1", "heard 9 miss = 1", "heard 1 miss = -1", "heard 1 miss = -", "heard 1 - = 0", "heard 1 x = 0", "heard 1 miss = 1 2", "heard 1 miss hit = 1"):
            self.assertEqual(self.judged("heard", read_record, text, HIT), "BadSheet")
        self.assert_like(read_record(HIT, "\n".join(["heard 8 miss = 1"] * 9))[8], (8, ("miss",), (1,)))
        for text in ("kind a 0", "kind b 1 , kind a 1", "kind a 1 , kind a 2", "step a 1 , kind a 1", "kind a 1 , kind a 1"):
            told = self.told(read_question, text)
            self.assert_like(told, plain_texts.read_question(text))
            self.assertEqual(told[0], "BadQuestion")

    def test_twisted_texts(self):
        draw = random.Random(161)
        verdicts = {}
        for sort, function, text, counters in (("step", read_program, STEPS, None), ("step", read_program, plain_texts.shown("step", LOOPS), None),
                                               ("counter", read_counters, "counter x y\ncounter y / 4\ncounter a", None), ("turn", read_plan, "turn 2 x -\nturn 1 - y\nturn 8 y y", TWO),
                                               ("heard", read_record, "heard 2 x - = 3 -\nheard 1 - y = - 0\nheard 8 - - = - -", TWO)):
            for other in twisted_lines(draw, text, 500):
                verdict = self.judged(sort, function, other, counters)
                verdicts[sort, verdict] = verdicts.get((sort, verdict), 0) + 1
        for pair in (("step", "BadText"), ("step", "BadProgram"), ("step", "value"), ("counter", "BadCounters"), ("counter", "value"), ("turn", "BadPlan"), ("turn", "value"),
                     ("heard", "BadSheet"), ("heard", "value"), ("heard", "BadText")):
            self.assertGreater(verdicts[pair], 25, pair)
        for text in [show_question(question) for question in QUESTIONS]:
            for other in twisted_lines(draw, text, 60):
                self.assert_like(self.told(read_question, other), plain_texts.read_question(other), other)

    def test_twisted_labs(self):
        draw = random.Random(162)
        verdicts = {}
        for text in (LAB, RICH, RICH):
            for other in twisted_lines(draw, text, 5000):
                verdict = self.judged_lab(other)
                verdicts[verdict] = verdicts.get(verdict, 0) + 1
        for kind in ("value", "BadText", "BadProgram", "BadCounters", "BadPlan", "BadCounts", "NoReading", "Stuck", "BadQuestion"):
            self.assertGreater(verdicts.get(kind, 0), 2, kind)

    def test_each_prefix_of_the_lines(self):
        for text in (LAB, RICH):
            lines = text.split("\n")
            for many in range(len(lines) + 1):
                self.judged_lab("\n".join(lines[:many]))
                self.judged_lab("\n".join(lines[many:]))
                for other in lines:
                    self.judged_lab("\n".join(lines[:many] + [other] + lines[many:]))

    def test_the_rich_lab(self):
        self.assertEqual(self.judged_lab(RICH), "value")
        lab = read_lab(RICH)
        self.assert_like(show_lab(lab), RICH)
        self.assert_like(lab.cases, ("free", "q", "z"))
        self.assert_like(lab.sheet("q"), ((((1, (None, None), (None, None)), (1, ("y", None), (3, None))), ((2, (None, None), (None, None)),)), False))
        self.assert_like(lab.sheet("z"), ((((2, (None, "y"), (None, 1)), (1, ("x", "y"), (0, 0))),), True))
        self.assert_like(lab.watches, (("u", (), 7), ("v", (("kind", "x", 2), ("step", "d", -1)), 0)))


class TestLabTexts(TextTest):
    """What read_lab tells, line by line."""

    def assert_told(self, text, name, held):
        self.assert_like(self.told(read_lab, text), (name, held))
        self.assertEqual(self.judged_lab(text), name)

    def test_any_sequence_of_cases_watches_and_left_lines(self):
        lines = RICH.split("\n")
        head, first, second, third, watches = lines[:6], lines[6:9], lines[9:20], lines[20:26], lines[26:]
        second[6:8] = second[7:5:-1]
        text = "\n".join(head + third + first + second + watches[::-1])
        self.assertEqual(read_lab(text), read_lab(RICH))
        self.assert_like(show_lab(read_lab(text)), RICH)
        self.assertEqual(self.judged_lab(text), "value")

    def test_lines_that_cannot_stand_there(self):
        lines = LAB.split("\n")
        for line, number in (("watch w 0 kind hit 1", 5), ("step a >", 5), ("counter x", 6), ("strand", 6), ("turn 1 -", 10), ("heard 2 miss = 3", 9), ("left 0 0", 7), ("left 0 0", 8)):
            text = "\n".join(lines[:number] + [line] + lines[number:])
            wrong = plain_texts.wrong_line(text.split("\n"))
            self.assertEqual(self.judged_lab(text), "value" if wrong is None else "BadText")
        self.assert_told("\n".join(lines[:5] + ["strand"] + lines[5:]), "BadText", 5)
        self.assert_told("\n".join(lines + ["case three"]), "BadText", len(lines))
        self.assert_told("\n".join(lines[:-1] + ["case three"]), "BadText", len(lines))
        self.assert_told("\n".join(lines[:-1] + ["case three", "strand"]), "BadText", len(lines) + 1)
        self.assert_told("\n".join(lines[:4]), "BadText", 4)
        self.assert_told("\n".join(lines[:6]), "BadText", 6)
        self.assert_told("\n".join(lines[:7]), "BadText", 7)

    def test_a_third_strand(self):
        head = STEPS + "\ncounter hit\ncase a"
        strand = "\nstrand\nturn 1 -"
        self.assertEqual(self.judged_lab(head + strand * 2), "value")
        self.assert_told(head + strand * 3, "BadText", 10)

    def test_heard_lines_by_the_plan(self):
        head = STEPS + "\ncounter hit miss\ncase a\nstrand\nturn 2 miss\nturn 1 -\n"
        for heard, wrong in ((["heard 2 miss = 3", "heard 1 - = -"], None), (["heard 1 miss = 0"], None), (["heard 1 miss = 0", "heard 1 - = -"], 10), (["heard 2 hit = 0"], 9),
                             (["heard 3 miss = 0"], 9), (["heard 2 - = -"], 9), (["heard 2 miss hit = 0"], 9), (["heard 2 miss = 3", "heard 2 - = -"], 10),
                             (["heard 2 miss = 3", "heard 1 miss = 0"], 10), (["heard 0 miss = 0", "heard 1 - = -"], 10), (["heard 2 miss = 3", "heard 1 - = -", "heard 2 - = -"], 11)):
            text = head + "\n".join(heard)
            if wrong is None:
                self.assertEqual(self.judged_lab(text), "value")
            else:
                self.assert_told(text, "BadText", wrong)
        # A line that cannot stand there comes ahead of what is wrong otherwise, even further up.
        self.assert_told(head.replace("turn 2", "turn 9") + "heard 9 miss = -\nheard 2 - = -", "BadText", 10)
        self.assert_told(head.replace("turn 2", "turn 9") + "heard 9 miss = -", "BadPlan", ((9, ("miss",)), (1, (None,))))
        self.assert_told(head + "heard 0 miss = 0", "BadLength", 0)
        self.assert_told(head + "heard -1 miss = 0", "BadLength", -1)
        self.assert_told(head + "heard 2 miss = -", "BadCounts", (None,))
        self.assert_told(head + "heard 0 miss = 1 2", "BadCounts", (1, 2))

    def test_the_sequence_of_what_is_told(self):
        parts = ["step a x*1 > a\nstep b >", "counter x", "case a\nstrand\nturn 1 x\nheard 1 x = 1", "case b\nstrand\nturn 1 x", "watch w 0 kind x 1", "watch v 1 -"]
        wrong = [("step a x*1 > c\nstep b >", "BadProgram", (("a", (("x", 1),), ("c",)), ("b", (), ()))), ("counter x / 1", "BadCounters", ((("x",), 1),)),
                 ("case a\nstrand\nturn 1 x\nheard 1 x = 2", "Stuck", 1), ("case a\nstrand\nturn 1 y", "Taken", "a"), ("watch w -1 kind x 0", "BadQuestion", (("kind", "x", 0),)),
                 ("watch w 0 kind x 0", "Taken", "w")]
        self.assertEqual(self.judged_lab("\n".join(parts)), "value")
        for place, (_, name, held) in enumerate(wrong):
            self.assert_told("\n".join(parts[:place] + [text for text, _, _ in wrong[place:]]), name, held)
        self.assert_told("\n".join(parts[:5] + ["watch v -1 kind x 1"]), "BadCount", -1)
        self.assert_told("\n".join(parts[:3] + ["case c\nstrand\nturn 1 y"]), "BadPlan", ((1, ("y",)),))

    def test_the_sequence_within_a_case(self):
        head = "step a x*1 > a\nstep b >\ncounter x\n"
        one = "strand\nturn 1 x\nheard 1 x = 1"
        self.assert_told(head + "closed a\nstrand\nturn 1 x\nheard 1 x = 2\nleft 0 0\nleft 0 0", "NoReading", (0, 0))
        self.assert_told(head + "closed a\nstrand\nturn 1 x\nheard 1 x = 2\nleft 1 0", "NoReading", (1, 0))
        self.assert_told(head + "closed a\nstrand\nturn 1 x\nheard 1 x = 2\nleft -1 0", "NoReading", (-1, 0))
        self.assert_told(head + "closed a\nstrand\nturn 1 -\nheard 1 - = -\nleft 0 0", "NoReading", (0, 0))
        self.assert_told(head + "closed a\nstrand\nturn 1 x", "Uneven", (0,))
        self.assert_told(head + "closed a\n" + one + "\nstrand\nturn 2 -", "Uneven", (1, 0))
        self.assert_told(head + "closed a\n" + one, "Stuck", 1)
        self.assertEqual(self.judged_lab(head + "case a\n" + one + "\nstrand\nturn 2 -\nheard 2 - = -"), "value")
        self.assert_told(head + "closed a\n" + one + "\nstrand\nturn 2 -\nheard 2 - = -", "Uneven", (1, 2))
        # Strands come one behind the other: what is wrong of the first one is told ahead of the second one's plan.
        self.assert_told(head + "case a\nstrand\nturn 1 x\nheard 1 x = -\nstrand\nturn 9 x", "BadCounts", (None,))
        self.assert_told(head + "case a\nstrand\nturn 1 x\nheard 1 x = 7\nstrand\nturn 9 x", "BadPlan", ((9, ("x",)),))
        # What is left out of a turn that no run has can be read, though it could never be heard so.
        self.assertEqual(self.judged_lab(head + "case a\nstrand\nturn 1 x\nheard 1 x = 7\nleft 0 0"), "value")

    def test_too_long(self):
        head = "step on tick*1 > on\ncounter tick\ncase a\nstrand\nturn 8 tick\n"
        self.assertEqual(self.judged_lab(head + "\n".join(["heard 8 tick = 8"] * 5)), "value")
        self.assert_told(head + "\n".join(["heard 8 tick = 8"] * 6), "TooLong", 48)
        self.assert_told(head + "\n".join(["heard 8 tick = 8"] * 5 + ["heard 3 tick = 3"]), "TooLong", 43)
        self.assert_told(head + "\n".join(["heard 8 tick = 8"] * 5 + ["heard 3 tick = -"]), "BadCounts", (None,))

    def test_a_lab_without_cases_and_watches(self):
        lab = read_lab("step only x*2 >\ncounter x")
        self.assertEqual(lab, Lab(Program(ALONE), NONE))
        lab = read_lab("step only x*2 >\ncounter x\nwatch a 0 -")
        self.assert_like(lab.watches, (("a", (), 0),))


class TestErrors(TextTest):
    def test_counters_come_first(self):
        for value in ANY_VALUES + list(twists(HIT)):
            if not plain.is_counters(value):
                for function in (read_plan, read_record):
                    self.assert_raises_just(BadCounters, value, function, value, "turn 1 -")
                    self.assert_raises_just(BadCounters, value, function, value, None)


if __name__ == "__main__":
    unittest.main()

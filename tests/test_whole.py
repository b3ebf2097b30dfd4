"""The whole: each name of the interface, its arguments by position and by name, and each error with its argument."""

import inspect
import importlib
import unittest

from fitruns import errors
from fitruns.errors import FitError
from fitruns.lab import Lab
from fitruns.programs import Program
from fitruns.rewriting import Rewriting
from tests.samples import FREE, TWO_WAYS
from tests.support import FitTest
from tests.test_lab import ASKED, HIT, PLANS, some_lab
from tests.test_rewriting import GO, IMAGES

# For each file its functions, each with its parameters as the document writes them.
FUNCTIONS = {
    "questions": ("is_question(value)", "worth(program, question, run, *, since=0, until=None)"),
    "counters": ("is_counters(value)", "is_setting(counters, value)", "setting_for(counters, kinds)", "shows_short(counters, kinds, value)"),
    "records": ("recorded(program, counters, plan, run)", "fits(program, counters, sheet, run)", "alike(program, counters, plan, one, other)"),
    "fitting": ("fitting(program, counters, sheet)", "stuck(program, counters, sheet)", "shows_stuck(program, counters, sheet, value)", "where(program, counters, sheet, tick)",
                "how_many(program, counters, sheet)", "nth(program, counters, sheet, index)", "index_of(program, counters, sheet, run)"),
    "totals": ("bounds(program, counters, sheet, question, *, since=0, until=None)", "sure(program, counters, sheet, question, *, since=0, until=None)",
               "visits(program, counters, sheet)", "least(program, counters, sheet, question, *, since=0, until=None)",
               "shows_least(program, counters, sheet, question, value, heights, *, since=0, until=None)", "greatest(program, counters, sheet, question, *, since=0, until=None)",
               "shows_greatest(program, counters, sheet, question, value, heights, *, since=0, until=None)"),
    "doubts": ("doubts(program, counters, sheet)", "shows_doubts(program, counters, sheet, value)"),
    "twins": ("unsure(program, counters, plan, question)", "shows_unsure(program, counters, plan, question, value)"),
    "choosing": ("cheapest(program, counters, lengths, prices, question, most)", "shows_cheapest(program, counters, lengths, prices, question, most, value)"),
    "asking": ("best(program, counters, lengths, question)", "shows_best(program, counters, lengths, question, value)"),
    "texts": ("show_program(program)", "show_counters(counters)", "show_plan(plan)", "show_record(record)", "show_question(question)", "show_lab(lab)", "read_program(text)",
              "read_counters(text)", "read_plan(counters, text)", "read_record(counters, text)", "read_question(text)", "read_lab(text)"),
}
# For each class its file, its methods with their parameters, and what is set on each object.
CLASSES = {
    "Program": ("programs", ("__init__(self, steps)", "following(self, name)", "many(self, name, kind)", "is_run(self, value)", "is_whole(self, value)", "runs(self, length)"),
                ("steps", "names", "kinds"), lambda: Program(TWO_WAYS)),
    "Rewriting": ("rewriting", ("__init__(self, elder, newer, images)", "image(self, run)", "fault(self)", "table(self)", "shows_faithful(self, value)", "led(self, question)"),
                  ("elder", "newer", "images"), lambda: Rewriting(Program(TWO_WAYS), Program(GO), IMAGES)),
    "Lab": ("lab", ("__init__(self, program, counters)", "begin(self, case, plans)", "hear(self, case, strand, counts, *, length=None)", "close(self, case)",
                    "doubt(self, case, strand, turn, counter)", "trust(self, case, strand, turn, counter)", "drop(self, case)", "watch(self, name, question, most)",
                    "unwatch(self, name)", "turn_to(self, rewriting)", "sheet(self, case)", "told(self, case, question, *, since=0, until=None)", "undo(self)", "trial(self)",
                    "tried(self, look)"),
            ("program", "counters", "cases", "watches", "news", "deeds"), lambda: Lab(Program(TWO_WAYS), HIT)),
    "Desk": ("desk", ("__init__(self, lab)", "say(self, line)"), ("lab",), lambda: importlib.import_module("fitruns.desk").Desk(some_lab())),
}
ERRORS = ("BadProgram(value), NoStep(value), NoKind(value), BadLength(value), BadQuestion(value), BadRun(value), BadRange(value), BadCounters(value), BadKinds(value), "
          "BadPlan(value), BadSheet(value), BadTick(value), NoRun(value), NoFit(run), BadLengths(value), BadPrices(value), BadCount(value), TooMany(number), BadImages(value), "
          "BadName(value), Taken(name), NoCase(value), Closed(name), NoStrand(value), BadCounts(value), Over(strand), TooLong(ticks), Stuck(t), Uneven(ticks), NoReading(value), "
          "NoWatch(value), BadRewriting(value), Unfaithful(run), NothingToUndo(), BadText(line), BadLine(line)").split(", ")


class TestInterface(FitTest):
    def test_the_functions_with_their_parameters(self):
        for file, rows in FUNCTIONS.items():
            module = importlib.import_module("fitruns." + file)
            for row in rows:
                name = row.partition("(")[0]
                function = getattr(module, name)
                self.assertTrue(inspect.isfunction(function))
                self.assertEqual((name + str(inspect.signature(function)), function.__module__), (row, "fitruns." + file))

    def test_the_classes_with_their_methods(self):
        for name, (file, rows, attributes, make) in CLASSES.items():
            module = importlib.import_module("fitruns." + file)
            self.assertEqual((module.__dict__[name].__module__, inspect.isclass(module.__dict__[name])), ("fitruns." + file, True))
            for row in rows:
                method = vars(module.__dict__[name])[row.partition("(")[0]]
                self.assertEqual(row.partition("(")[0] + str(inspect.signature(method)), row)
            for attribute in attributes:
                self.assertTrue(hasattr(make(), attribute))

    def test_each_error_with_its_argument_under_its_name(self):
        self.assertEqual(len(ERRORS), 36)
        for row in ERRORS:
            name, _, word = row[:-1].partition("(")
            kind = getattr(errors, name)
            self.assertEqual((kind.__bases__, kind.__module__), ((FitError,), "fitruns.errors"))
            if word:
                self.assertEqual(vars(kind(7)), {word: 7})
                self.assertEqual(vars(kind(**{word: (None, "x")})), {word: (None, "x")})
            else:
                self.assertEqual(vars(kind()), {})
        self.assertTrue(issubclass(FitError, ValueError))

    def test_the_package_imports_nothing_from_outside(self):
        for file in sorted(list(FUNCTIONS) + [row[0] for row in CLASSES.values()]):
            source = inspect.getsource(importlib.import_module("fitruns." + file))
            for line in source.split("\n"):
                if line.startswith(("import ", "from ")):
                    self.assertTrue(line.startswith("from fitruns."), line)


class TestTogether(FitTest):
    """A way through the package on which each part rests on others."""

    def test_from_a_plan_to_a_lab_and_back(self):
        from fitruns.choosing import cheapest
        from fitruns.desk import Desk
        from fitruns.doubts import doubts
        from fitruns.records import fits, recorded
        from fitruns.texts import read_lab, show_lab
        from fitruns.totals import sure
        program = Program(TWO_WAYS)
        _, price, plan, _ = cheapest(program, HIT, (3,), (("hit", 1), ("miss", 2)), ASKED, 0)
        self.assertEqual((price, plan), (1, ((3, ("hit",)),)))
        for run in (("in", "hot", "out"), ("in", "cold", "out")):
            lab = Lab(program, HIT)
            lab.begin("a", (plan,))
            for _, _, counts in recorded(program, HIT, plan, run):
                lab.hear("a", 0, counts)
            lab.close("a")
            self.assertTrue(fits(program, HIT, lab.sheet("a"), run))
            hits = 2 if "cold" in run else 0
            self.assertEqual((sure(program, HIT, lab.sheet("a"), ASKED), lab.told("a", ASKED)), (hits, (hits, hits)))
            self.assertEqual(doubts(program, HIT, lab.sheet("a"))[:2], ((), run))
            other = read_lab(show_lab(lab))
            self.assertEqual((other, Desk(other).say("run a")), (lab, " ".join(run)))
            lab.turn_to(Rewriting(program, Program(GO), IMAGES))
            self.assertEqual((lab.cases, other.cases), ((), ("a",)))

    def test_equal_calls_equal_results(self):
        one, other = some_lab(), some_lab()
        for lab in (one, other):
            lab.undo()
            lab.hear("one", 0, (None,))
        self.assertEqual((one, one.news, one.deeds), (other, other.news, other.deeds))
        self.assertEqual((FREE, PLANS), ((FREE[0], True), (((2, ("miss",)), (1, (None,))),)))


if __name__ == "__main__":
    unittest.main()

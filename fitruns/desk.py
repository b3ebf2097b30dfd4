"""A desk: a lab that is led by lines, and answers with lines."""

from fitruns.errors import BadLine
from fitruns.fitting import fitting, how_many, where
from fitruns.twins import unsure
from fitruns.words import counts_told, fixed_told, plan_told, question_told, split_at


def _bounds_shown(told):
    return "-" if told is None else f"{told[0]}..{told[1]}"


def _names_shown(names):
    return " ".join(names) if len(names) > 0 else "-"


def _done(lab):
    rows = [f"{watch}:{case}:{_bounds_shown(now)}" for watch, case, _, now in lab.news]
    return " ".join(["done"] + rows)


# What an action is passed by the words behind those of a fixed number: a tuple, None if they have not this form.

def _no_more(words):
    return () if len(words) == 0 else None


def _counts(words):
    counts = counts_told(words)
    return None if counts is None else (counts,)


def _question(words):
    question = question_told(words)
    return None if question is None else (question,)


def _plans(words):
    plans = [plan_told(part) for part in split_at(words, "|")]
    return None if len(plans) > 2 or None in plans else (tuple(plans),)


def _plan_and_question(words):
    parts = split_at(words, "?")
    told = (plan_told(parts[0]), question_told(parts[-1]))
    return None if len(parts) != 2 or None in told else told


# The actions: each one is passed a lab and what the words of its line tell, and returns the answer.

def _begin(lab, case, plans):
    lab.begin(case, plans)
    return _done(lab)


def _hear(lab, case, strand, counts):
    lab.hear(case, strand, counts)
    return _done(lab)


def _short(lab, case, strand, length, counts):
    lab.hear(case, strand, counts, length=length)
    return _done(lab)


def _close(lab, case):
    lab.close(case)
    return _done(lab)


def _doubt(lab, case, strand, turn, counter):
    lab.doubt(case, strand, turn, counter)
    return _done(lab)


def _trust(lab, case, strand, turn, counter):
    lab.trust(case, strand, turn, counter)
    return _done(lab)


def _drop(lab, case):
    lab.drop(case)
    return _done(lab)


def _watch(lab, name, most, question):
    lab.watch(name, question, most)
    return _done(lab)


def _unwatch(lab, name):
    lab.unwatch(name)
    return _done(lab)


def _undo(lab):
    lab.undo()
    return _done(lab)


def _told(lab, case, question):
    return _bounds_shown(lab.told(case, question))


def _run(lab, case):
    return _names_shown(fitting(lab.program, lab.counters, lab.sheet(case)))


def _where(lab, case, tick):
    return _names_shown(where(lab.program, lab.counters, lab.sheet(case), tick))


def _many(lab, case):
    return f"{how_many(lab.program, lab.counters, lab.sheet(case))}"


def _cases(lab):
    return _names_shown(lab.cases)


def _deeds(lab):
    return f"{lab.deeds}"


def _unsure(lab, plan, question):
    told = unsure(lab.program, lab.counters, plan, question)
    return f"{told[1]}" if told[0] == "most" else told[0]


# By its first word the form of each line: the sorts of the words that come first, what is told by those behind them,
# and the action.
FORMS = {
    "begin": (("name",), _plans, _begin),
    "hear": (("name", "number"), _counts, _hear),
    "short": (("name", "number", "number"), _counts, _short),
    "close": (("name",), _no_more, _close),
    "doubt": (("name", "number", "number", "number"), _no_more, _doubt),
    "trust": (("name", "number", "number", "number"), _no_more, _trust),
    "drop": (("name",), _no_more, _drop),
    "watch": (("name", "number"), _question, _watch),
    "unwatch": (("name",), _no_more, _unwatch),
    "undo": ((), _no_more, _undo),
    "told": (("name",), _question, _told),
    "run": (("name",), _no_more, _run),
    "where": (("name", "number"), _no_more, _where),
    "many": (("name",), _no_more, _many),
    "cases": ((), _no_more, _cases),
    "deeds": ((), _no_more, _deeds),
    "unsure": ((), _plan_and_question, _unsure),
}


class Desk:
    """A desk at a lab."""

    def __init__(self, lab):
        self.lab = lab

    def say(self, line):
        """The answer to a line, once what it asks for is done."""
        words = line.split(" ") if isinstance(line, str) else [""]
        if words[0] not in FORMS:
            raise BadLine(line)
        sorts, rest_told, action = FORMS[words[0]]
        first, rest = fixed_told(words[1:len(sorts) + 1], sorts), rest_told(words[len(sorts) + 1:])
        if first is None or rest is None:
            raise BadLine(line)
        told = first + rest
        return action(self.lab, *told)

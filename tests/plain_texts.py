"""What the document says in section 16, word for word: the lines of each text, and what is raised for them.

Nothing here is taken from the package. What a text tells is ("value", ..), or the name of an error and what it holds.
"""

import re

from tests import plain, plain_lab
from tests.test_programs import is_program
from tests.test_questions import judged_question

NUMBER = "(?:0|-?[1-9][0-9]{0,17})"
NAME = "[a-z]{1,8}"
SETTING = f"(?:-|{NAME})(?: (?:-|{NAME}))*"
ITEM = f"(?:kind|step) {NAME} {NUMBER}"
QUESTION = f"(?:-|{ITEM}(?: , {ITEM})*)"
FORMS = {
    "step": f"step {NAME}(?: {NAME}[*]{NUMBER})* >(?: {NAME})*",
    "counter": f"counter {NAME}(?: {NAME})*(?: / {NUMBER})?",
    "case": f"(?:case|closed) {NAME}",
    "strand": "strand",
    "turn": f"turn {NUMBER} {SETTING}",
    "heard": f"heard {NUMBER} {SETTING} = (?:-|{NUMBER})(?: (?:-|{NUMBER}))*",
    "left": f"left {NUMBER} {NUMBER}",
    "watch": f"watch {NAME} {NUMBER} {QUESTION}",
    "question": QUESTION,
}
# What can stand behind each kind of line; "end" is the end of the text.
BEHIND = {
    None: ["step"], "step": ["step", "counter"], "counter": ["counter", "case", "watch", "end"], "case": ["strand"], "strand": ["turn"],
    "turn": ["turn", "heard", "left", "strand", "case", "watch", "end"], "heard": ["heard", "left", "strand", "case", "watch", "end"],
    "left": ["left", "strand", "case", "watch", "end"], "watch": ["watch", "end"],
}


def sort_of(line):
    """The kind of line that this one is, None if it is none."""
    return next((sort for sort in FORMS if sort != "question" and re.fullmatch(FORMS[sort], line)), None)


def parts(words):
    return tuple(None if word == "-" else word for word in words)


def numbers(words):
    return tuple(None if word == "-" else int(word) for word in words)


def step_of(line):
    words = line.split(" ")
    at = words.index(">")
    happenings = [word.split("*") for word in words[2:at]]
    return (words[1], tuple((kind, int(many)) for kind, many in happenings), tuple(words[at + 1:]))


def counter_of(line):
    words = line.split(" ")[1:]
    return (tuple(words[:words.index("/")]), int(words[-1])) if "/" in words else (tuple(words), None)


def turn_of(line):
    words = line.split(" ")
    return (int(words[1]), parts(words[2:]))


def heard_of(line):
    words = line.split(" ")
    at = words.index("=")
    return (int(words[1]), parts(words[2:at]), numbers(words[at + 1:]))


def question_of(line):
    return () if line == "-" else tuple((sort, name, int(weight)) for sort, name, weight in (item.split(" ") for item in line.split(" , ")))


def lines_of(text):
    return text.split("\n") if text else []


def first_wrong(text, sort):
    """The number of the first line that is not of this kind, or how many lines there are if there is none; else None."""
    lines = lines_of(text)
    wrong = [number for number, line in enumerate(lines) if not re.fullmatch(FORMS[sort], line)]
    return wrong[0] if wrong else None if lines else 0


def read(sort, text, counters=None):
    """What read_program, read_counters, read_plan, read_record tell."""
    if type(text) is not str:
        return ("BadText", 0)
    wrong = first_wrong(text, sort)
    if wrong is not None:
        return ("BadText", wrong)
    told = tuple({"step": step_of, "counter": counter_of, "turn": turn_of, "heard": heard_of}[sort](line) for line in lines_of(text))
    if sort == "step":
        return ("value", told) if is_program(told) else ("BadProgram", told)
    if sort == "counter":
        return ("value", told) if plain.is_counters(told) else ("BadCounters", told)
    if sort == "turn":
        return ("value", told) if plain.is_plan(counters, told) else ("BadPlan", told)
    return ("value", told) if plain.is_record(counters, told) else ("BadSheet", ((told,), False))


def read_question(text):
    if type(text) is not str:
        return ("BadText", 0)
    lines = text.split("\n")
    if not re.fullmatch(FORMS["question"], lines[0]):
        return ("BadText", 0)
    if len(lines) > 1:
        return ("BadText", 1)
    told = question_of(text)
    return ("value", told) if judged_question(told) else ("BadQuestion", told)


def wrong_line(lines):
    """The number of the first line of a lab that cannot stand there, None without one."""
    ahead, plan, heard, strands = None, [], [], 0
    for number, line in enumerate(lines):
        sort = sort_of(line)
        if sort is None or sort not in BEHIND[ahead]:
            return number
        if sort == "case":
            strands = 0
        if sort == "strand":
            strands, plan, heard = strands + 1, [], []
            if strands == 3:
                return number
        if sort == "turn":
            plan.append(turn_of(line))
        if sort == "heard":
            length, setting, _ = heard_of(line)
            most, kinds = plan[len(heard) % len(plan)]
            if kinds != setting or length > most:
                return number
            if heard and heard[-1][0] < plan[(len(heard) - 1) % len(plan)][0]:
                return number
            heard.append((length, setting))
        ahead = sort
    return None if "end" in BEHIND[ahead] else len(lines)


def blocks(lines):
    """The lines of the program, of the counters, a list of the lines of each case, and those of the watches."""
    sorts = [sort_of(line) for line in lines]
    program = [line for line, sort in zip(lines, sorts) if sort == "step"]
    counters = [line for line, sort in zip(lines, sorts) if sort == "counter"]
    watches = [line for line, sort in zip(lines, sorts) if sort == "watch"]
    cases = []
    for line, sort in zip(lines, sorts):
        if sort == "case":
            cases.append([])
        if sort in ("case", "strand", "turn", "heard", "left"):
            cases[-1].append(line)
    return program, counters, cases, watches


def read_case(model, steps, lines):
    """("value", case) of the lines of a case, or an error."""
    counters = model.begun[1]
    strands = [[]]
    for line in lines[1:]:
        if line == "strand":
            strands.append([])
        else:
            strands[-1].append(line)
    plans = tuple(tuple(turn_of(line) for line in strand if sort_of(line) == "turn") for strand in strands[1:])
    case = {"plans": plans, "heard": [[] for _ in plans], "left": set(), "closed": False}
    for strand, told in enumerate(strands[1:]):
        if not plain.is_plan(counters, plans[strand]):
            return ("BadPlan", plans[strand])
        for line in told:
            if sort_of(line) == "heard":
                length, setting, counts = heard_of(line)
                others = dict(case, heard=[heard if place == strand else [] for place, heard in enumerate(case["heard"])])
                # With two strands that are not even no run is looked for; that comes when all is put together.
                others["plans"], others["heard"] = plans[strand:strand + 1] + plans[:1], [case["heard"][strand], []]
                error = model.wrong_hear(steps, {"c": others}, {}, "c", 0, counts, length)
                if error is not None:
                    return error
                case["heard"][strand].append((length, setting, counts))
        for line in told:
            if sort_of(line) == "left":
                turn, counter = numbers(line.split(" ")[1:])
                if not model.is_reading(case, strand, turn, counter) or (strand, turn, counter) in case["left"]:
                    return ("NoReading", (turn, counter))
                case["left"].add((strand, turn, counter))
    case["closed"] = lines[0].startswith("closed ")
    if case["closed"] and not plain_lab.stands(case):
        return ("Uneven", plain_lab.ticks_of(case["heard"]))
    t = model.stuck(steps, case)
    return ("value", case) if t is None else ("Stuck", t)


def read_lab(text):
    """("value", (steps, counters, cases, watches)), or an error."""
    if type(text) is not str:
        return ("BadText", 0)
    lines = lines_of(text)
    wrong = wrong_line(lines)
    if wrong is not None:
        return ("BadText", wrong)
    program, counters, told, watching = blocks(lines)
    steps, counters = tuple(step_of(line) for line in program), tuple(counter_of(line) for line in counters)
    if not is_program(steps):
        return ("BadProgram", steps)
    if not plain.is_counters(counters):
        return ("BadCounters", counters)
    model, cases, watches = plain_lab.Model(steps, counters), {}, {}
    for block in told:
        name = block[0].split(" ")[1]
        if name in cases:
            return ("Taken", name)
        case = read_case(model, steps, block)
        if case[0] != "value":
            return case
        cases[name] = case[1]
    for line in watching:
        _, name, most, question = line.split(" ", 3)
        args = (name, question_of(question), int(most))
        error = model.wrong_watch(steps, cases, watches, *args)
        if error is not None:
            return error
        watches[name] = args[1:]
    return ("value", (steps, counters, cases, watches))


def dashed(values):
    return ["-" if value is None else str(value) for value in values]


def shown(sort, told):
    """The text of a program, of counters, a plan, a record."""
    lines = []
    for row in told:
        if sort == "step":
            words = [row[0]] + [kind + "*" + str(many) for kind, many in row[1]] + [">"] + list(row[2])
        elif sort == "counter":
            words = list(row[0]) + ([] if row[1] is None else ["/", str(row[1])])
        else:
            words = [str(row[0])] + dashed(row[1]) + (["="] + dashed(row[2]) if sort == "heard" else [])
        lines.append(" ".join([sort] + words))
    return "\n".join(lines)


def shown_question(question):
    return " , ".join(f"{sort} {name} {weight}" for sort, name, weight in question) or "-"


def shown_lab(steps, counters, cases, watches):
    lines = [shown("step", steps), shown("counter", counters)]
    for name in sorted(cases):
        case = cases[name]
        lines.append(("closed " if case["closed"] else "case ") + name)
        for strand, plan in enumerate(case["plans"]):
            lines += ["strand", shown("turn", plan)]
            if case["heard"][strand]:
                lines.append(shown("heard", case["heard"][strand]))
            lines += [f"left {turn} {counter}" for place, turn, counter in sorted(case["left"]) if place == strand]
    lines += [f"watch {name} {watches[name][1]} {shown_question(watches[name][0])}" for name in sorted(watches)]
    return "\n".join(lines)

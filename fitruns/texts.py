"""Texts: programs, counters, plans, records, questions and labs as lines, and read back."""

from fitruns.cases import check_even, check_fits, closed_case, is_closed, new_case, with_turn, without_reading
from fitruns.counters import check_counters
from fitruns.lab import Lab, Scene, check_new_name
from fitruns.lines import (
    Lines, case_line, counter_line, heard_line, left_line, step_line, strand_line, turn_line, watch_line,
)
from fitruns.programs import Program
from fitruns.questions import check_most, check_question
from fitruns.records import check_plan, check_sheet
from fitruns.words import question_told, shown_with_dashes


def _text(lines):
    """The text of lines that are given as lists of words."""
    return "\n".join([" ".join(words) for words in lines])


def _step_words(step):
    name, happenings, following = step
    return ["step", name] + [f"{kind}*{many}" for kind, many in happenings] + [">"] + list(following)


def _counter_words(counter):
    kinds, size = counter
    return ["counter"] + list(kinds) + ([] if size is None else ["/", f"{size}"])


def _turn_words(turn):
    length, setting = turn
    return ["turn", f"{length}"] + shown_with_dashes(setting)


def _heard_words(heard):
    length, setting, counts = heard
    return ["heard", f"{length}"] + shown_with_dashes(setting) + ["="] + shown_with_dashes(counts)


def _question_words(question):
    words = []
    for sort, name, weight in question:
        words.extend([",", sort, name, f"{weight}"])
    return words[1:] if words else ["-"]


def _case_lines(name, case):
    plans, strands, left, _ = case
    lines = [["closed" if is_closed(case) else "case", name]]
    for strand, (plan, heard) in enumerate(zip(plans, strands)):
        lines.append(["strand"])
        lines.extend([_turn_words(turn) for turn in plan])
        lines.extend([_heard_words(turn) for turn in heard])
        lines.extend([["left", f"{turn}", f"{counter}"] for number, turn, counter in left if number == strand])
    return lines


def show_program(program):
    """The text of a program."""
    return _text([_step_words(step) for step in program.steps])


def show_counters(counters):
    """The text of counters."""
    return _text([_counter_words(counter) for counter in counters])


def show_plan(plan):
    """The text of a plan."""
    return _text([_turn_words(turn) for turn in plan])


def show_record(record):
    """The text of a record."""
    return _text([_heard_words(turn) for turn in record])


def show_question(question):
    """The text of a question, one line."""
    return _text([_question_words(question)])


def show_lab(lab):
    """The text of a lab, without its deeds and news."""
    lines = [_step_words(step) for step in lab.program.steps]
    lines.extend([_counter_words(counter) for counter in lab.counters])
    for name in lab.cases:
        lines.extend(_case_lines(name, lab.held(name)))
    for name, question, most in lab.watches:
        lines.append(["watch", name, f"{most}"] + _question_words(question))
    return _text(lines)


def read_program(text):
    """The program of a text."""
    lines = Lines(text)
    steps = lines.take_more("step", step_line)
    lines.finish()
    return Program(tuple(steps))


def _checked_counters(told):
    counters = tuple(told)
    check_counters(counters)
    return counters


def read_counters(text):
    """The counters of a text."""
    lines = Lines(text)
    told = lines.take_more("counter", counter_line)
    lines.finish()
    return _checked_counters(told)


def read_plan(counters, text):
    """The plan of a text."""
    check_counters(counters)
    lines = Lines(text)
    plan = tuple(lines.take_more("turn", turn_line))
    lines.finish()
    check_plan(counters, plan)
    return plan


def read_record(counters, text):
    """The record of a text."""
    check_counters(counters)
    lines = Lines(text)
    record = tuple(lines.take_more("heard", heard_line))
    lines.finish()
    check_sheet(counters, ((record,), False))
    return record


def read_question(text):
    """The question of a text."""
    lines = Lines(text)
    question = lines.take(question_told)
    lines.finish()
    check_question(question)
    return question


def _heard_by_plan(lines, plan):
    """What was heard of a strand, as far as it can stand behind this plan by its form."""
    heard = []
    is_over = False
    while lines.first_word() == "heard":
        length, setting, counts = lines.take(heard_line)
        most, kinds = plan[len(heard) % len(plan)]
        if is_over or setting != kinds or length > most:
            lines.refuse()
        is_over = length < most
        heard.append((length, counts))
    return heard


def _strand_of(lines):
    """(plan, what was heard, readings left out) of the next lines."""
    lines.take(strand_line)
    plan = tuple(lines.take_more("turn", turn_line))
    heard = _heard_by_plan(lines, plan)
    return (plan, heard, lines.take_some("left", left_line))


def _case_of(lines):
    """(name, closed, strands) of the next lines."""
    name, closed = lines.take(case_line)
    strands = [_strand_of(lines)]
    if lines.first_word() == "strand":
        strands.append(_strand_of(lines))
    return (name, closed, strands)


def _put_together(program, counters, closed, strands):
    """The case that the lines of its strands tell of."""
    case = new_case(tuple([plan for plan, _, _ in strands]))
    for strand, (plan, heard, left) in enumerate(strands):
        check_plan(counters, plan)
        for length, counts in heard:
            case = with_turn(counters, case, strand, counts, length)
        for turn, counter in left:
            case = without_reading(case, strand, turn, counter)
    if closed:
        check_even(case)
        case = closed_case(case)
    check_fits(program, counters, case)
    return case


def _cases_told(program, counters, told):
    cases = {}
    for name, closed, strands in told:
        check_new_name(name, cases)
        cases[name] = _put_together(program, counters, closed, strands)
    return cases


def _watches_told(told):
    watches = {}
    for name, most, question in told:
        check_new_name(name, watches)
        check_question(question)
        check_most(most)
        watches[name] = (question, most)
    return watches


def read_lab(text):
    """The lab of a text, without deeds and news."""
    lines = Lines(text)
    steps = lines.take_more("step", step_line)
    told = lines.take_more("counter", counter_line)
    cases = []
    while lines.first_word() in ("case", "closed"):
        cases.append(_case_of(lines))
    watches = lines.take_some("watch", watch_line)
    lines.finish()
    # What the lines tell is looked at only now: a line that cannot stand comes ahead of all that is wrong otherwise.
    program = Program(tuple(steps))
    counters = _checked_counters(told)
    lab = Lab(program, counters)
    lab.hold(Scene(program, _cases_told(program, counters, cases), _watches_told(watches)))
    return lab

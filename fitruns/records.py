"""Plans of turns, what is recorded of a run under them, and sheets of records that runs may fit."""

from fitruns.counters import check_counters, suits
from fitruns.errors import BadLengths, BadPlan, BadSheet
from fitruns.forms import is_integer_from, is_integer_within, is_row
from fitruns.programs import check_run


def _is_turn(counters, value):
    return is_row(value, 2) and is_integer_within(value[0], 1, 8) and suits(counters, value[1])


def is_plan(counters, value):
    """Whether any value is a plan for what are counters for sure."""
    if not isinstance(value, tuple) or not 1 <= len(value) <= 4:
        return False
    return all([_is_turn(counters, turn) for turn in value])


def check_plan(counters, plan):
    """Raise BadPlan for any value that is no plan for the counters."""
    if not is_plan(counters, plan):
        raise BadPlan(plan)


def check_lengths(lengths):
    """Raise BadLengths for any value that is no tuple of lengths of the turns of a plan that is to be chosen."""
    right = isinstance(lengths, tuple) and 1 <= len(lengths) <= 3
    if not right or not all([is_integer_within(length, 1, 6) for length in lengths]):
        raise BadLengths(lengths)


def _is_count(kind, size, value):
    if kind is None:
        return value is None
    return is_integer_from(value, 0) and (size is None or value < size)


def are_counts(counters, setting, value):
    """Whether any value is what counters show in this setting."""
    if not is_row(value, len(counters)):
        return False
    return all([_is_count(kind, size, count) for (_, size), kind, count in zip(counters, setting, value)])


def _is_heard_turn(counters, value):
    if not is_row(value, 3) or not _is_turn(counters, value[:2]):
        return False
    return are_counts(counters, value[1], value[2])


def _is_heard(counters, value):
    if not isinstance(value, tuple) or len(value) == 0:
        return False
    return all([_is_heard_turn(counters, turn) for turn in value])


def _ticks_of(heard):
    return sum([length for length, _, _ in heard])


def _is_sheet(counters, value):
    if not is_row(value, 2) or not isinstance(value[1], bool):
        return False
    records = value[0]
    if not is_row(records, 1) and not is_row(records, 2):
        return False
    if not all([_is_heard(counters, heard) for heard in records]):
        return False
    return _ticks_of(records[0]) == _ticks_of(records[-1])


def check_sheet(counters, sheet):
    """Raise BadSheet for any value that is no sheet of the counters."""
    if not _is_sheet(counters, sheet):
        raise BadSheet(sheet)


def happenings_by_step(program):
    """A dict that gives each name of a step a dict from its kinds to how many of them happen."""
    return {name: dict(happenings) for name, happenings, _ in program.steps}


def counted(counters, setting, shown, happened):
    """What the counters show behind a step in which this happened, if they show that ahead of it."""
    behind = []
    for (_, size), kind, ahead in zip(counters, setting, shown):
        many = 0 if kind is None else ahead + happened.get(kind, 0)
        behind.append(many if size is None else many % size)
    return tuple(behind)


def _counts_over(counters, setting, happened):
    """The counts of a turn with these happenings, a dict for each of its steps."""
    shown = (0,) * len(counters)
    for step in happened:
        shown = counted(counters, setting, shown, step)
    return tuple([None if kind is None else many for kind, many in zip(setting, shown)])


def _heard_over(program, counters, turns, run):
    """The record of a run under turns (length, setting) that come round and round."""
    happened = happenings_by_step(program)
    heard = []
    place = 0
    while place < len(run):
        length, setting = turns[len(heard) % len(turns)]
        steps = [happened[name] for name in run[place:place + length]]
        heard.append((len(steps), setting, _counts_over(counters, setting, steps)))
        place += length
    return tuple(heard)


def agrees(program, counters, sheet, run):
    """Whether what is a run for sure fits what is a sheet for sure."""
    records, ended = sheet
    if ended and not program.is_whole(run):
        return False
    # The record of a run of another length has other turns, or more or fewer of them.
    return all([_heard_over(program, counters, [turn[:2] for turn in heard], run) == heard for heard in records])


def recorded(program, counters, plan, run):
    """The record of the run under the plan."""
    check_counters(counters)
    check_plan(counters, plan)
    check_run(program, run)
    return _heard_over(program, counters, plan, run)


def fits(program, counters, sheet, run):
    """Whether the run has just the ticks, the end and the counts of the sheet."""
    check_counters(counters)
    check_sheet(counters, sheet)
    check_run(program, run)
    return agrees(program, counters, sheet, run)


def alike(program, counters, plan, one, other):
    """Whether two runs have the same record under the plan."""
    check_counters(counters)
    check_plan(counters, plan)
    check_run(program, one)
    check_run(program, other)
    return _heard_over(program, counters, plan, one) == _heard_over(program, counters, plan, other)

"""What the document says of counters, records, sheets and states, word for word, by listing all that there is.

Nothing here is taken from the package: programs are tuples of steps.
"""

import itertools

from tests.support import ascends, is_int, is_name


def is_counters(value):
    if type(value) is not tuple or len(value) not in (1, 2, 3):
        return False
    for part in value:
        if type(part) is not tuple or len(part) != 2 or type(part[0]) is not tuple or len(part[0]) < 1:
            return False
        if not all(is_name(kind) for kind in part[0]) or not ascends(part[0]):
            return False
        if part[1] is not None and not (is_int(part[1]) and 2 <= part[1] <= 999):
            return False
    return True


def is_setting(counters, value):
    if type(value) is not tuple or len(value) != len(counters):
        return False
    return all(kind is None or type(kind) is str and kind in able for kind, (able, _) in zip(value, counters))


def is_kinds(value):
    return type(value) is tuple and all(is_name(kind) for kind in value) and ascends(value)


def rank(setting):
    """A setting as what Python compares as the document does: None ahead of all names."""
    return tuple("" if kind is None else kind for kind in setting)


def all_settings(counters):
    settings = itertools.product(*[(None,) + able for able, _ in counters])
    return sorted(settings, key=rank)


def is_short(counters, kinds, value):
    if not is_kinds(value) or not set(value) <= set(kinds):
        return False
    return len(value) > sum(1 for able, _ in counters if set(able) & set(value))


def is_turn(counters, value):
    if type(value) is not tuple or len(value) != 2:
        return False
    return is_int(value[0]) and 1 <= value[0] <= 8 and is_setting(counters, value[1])


def is_plan(counters, value):
    return type(value) is tuple and len(value) in (1, 2, 3, 4) and all(is_turn(counters, turn) for turn in value)


def is_count(kind, size, value):
    if kind is None or value is None:
        return kind is None and value is None
    return is_int(value) and value >= 0 and (size is None or value < size)


def is_record(counters, value):
    if type(value) is not tuple or len(value) < 1:
        return False
    for turn in value:
        if type(turn) is not tuple or len(turn) != 3 or not is_turn(counters, turn[:2]):
            return False
        if type(turn[2]) is not tuple or len(turn[2]) != len(counters):
            return False
        if not all(is_count(kind, size, count) for kind, (_, size), count in zip(turn[1], counters, turn[2])):
            return False
    return True


def ticks_of(record):
    return sum(turn[0] for turn in record)


def is_sheet(counters, value):
    if type(value) is not tuple or len(value) != 2 or type(value[1]) is not bool:
        return False
    if type(value[0]) is not tuple or len(value[0]) not in (1, 2):
        return False
    if not all(is_record(counters, record) for record in value[0]):
        return False
    return len({ticks_of(record) for record in value[0]}) == 1


def step_of(steps, name):
    return [step for step in steps if step[0] == name][0]


def runs_of(steps, length):
    """All runs of this length, ascending."""
    runs = [(steps[0][0],)]
    for _ in range(length - 1):
        runs = [run + (name,) for run in runs for name in step_of(steps, run[-1])[2]]
    return sorted(runs)


def is_run(steps, value):
    if type(value) is not tuple or len(value) < 1 or not all(type(name) is str for name in value):
        return False
    if value[0] != steps[0][0]:
        return False
    return all(name in step_of(steps, ahead)[2] for ahead, name in zip(value, value[1:]))


def is_whole(steps, run):
    return step_of(steps, run[-1])[2] == ()


def totals_of(steps, setting, names):
    """For each counter how many of its kind happen in these steps, 0 if it is on nothing."""
    happenings = [pair for name in names for pair in step_of(steps, name)[1]]
    return [sum(many for other, many in happenings if other == kind) for kind in setting]


def wrapped(counters, totals):
    return tuple(total if size is None else total % size for total, (_, size) in zip(totals, counters))


def counts_of(steps, counters, setting, names):
    shown = wrapped(counters, totals_of(steps, setting, names))
    return tuple(None if kind is None else count for kind, count in zip(setting, shown))


def record_of(steps, counters, plan, run):
    # The turn of each tick by its number: a plan that comes round has another number each time.
    ticks = [number for number in range(len(run)) for _ in range(plan[number % len(plan)][0])][:len(run)]
    record = []
    for number in range(ticks[-1] + 1):
        names = [name for name, tick in zip(run, ticks) if tick == number]
        setting = plan[number % len(plan)][1]
        record.append((len(names), setting, counts_of(steps, counters, setting, names)))
    return tuple(record)


def turn_at(record, tick):
    """(setting, counts, its first tick, the one behind its last tick) of the turn to which a tick belongs."""
    first = 0
    for length, setting, counts in record:
        if first <= tick < first + length:
            return setting, counts, first, first + length
        first += length
    raise IndexError(tick)


def has_broken(steps, counters, sheet, run):
    """Whether a run of at most T steps has broken with its last tick, or ahead of it."""
    records, ended = sheet
    for record in records:
        for tick in range(len(run)):
            setting, counts, first, end = turn_at(record, tick)
            if end <= len(run) and counts_of(steps, counters, setting, run[first:end]) != counts:
                return True
    return ended and len(run) == ticks_of(records[0]) and not is_whole(steps, run)


def fits(steps, counters, sheet, run):
    return len(run) == ticks_of(sheet[0][0]) and not has_broken(steps, counters, sheet, run)


def fitting_runs(steps, counters, sheet):
    """All runs that fit, ascending."""
    return [run for run in runs_of(steps, ticks_of(sheet[0][0])) if fits(steps, counters, sheet, run)]


def unbroken_runs(steps, counters, sheet, t):
    return [run for run in runs_of(steps, t) if not has_broken(steps, counters, sheet, run)]


def state_of(steps, counters, sheet, run):
    """The state of a run behind its last step."""
    shown = []
    for record in sheet[0]:
        setting, _, first, end = turn_at(record, len(run) - 1)
        under_way = run[first:] if end > len(run) else ()
        shown.append(wrapped(counters, totals_of(steps, setting, under_way)))
    return (run[-1], tuple(shown))


def states_behind(steps, counters, sheet, t):
    """The ascending tuple of the states of all runs of t steps that have not broken by then."""
    return tuple(sorted({state_of(steps, counters, sheet, run) for run in unbroken_runs(steps, counters, sheet, t)}))


def state_behind(steps, counters, sheet, t, shown, name):
    """The state behind t + 1 ticks in this step, where that is shown behind t ticks; None if it breaks."""
    records, ended = sheet
    behind = []
    for record, ahead in zip(records, shown):
        setting, counts, _, end = turn_at(record, t)
        totals = [0 if kind is None else many + more
                  for kind, many, more in zip(setting, ahead, totals_of(steps, setting, [name]))]
        now = wrapped(counters, totals)
        if end == t + 1:
            if any(count is not None and count != many for count, many in zip(counts, now)):
                return None
            now = (0,) * len(counters)
        behind.append(now)
    if ended and t + 1 == ticks_of(records[0]) and not is_whole(steps, (name,)):
        return None
    return (name, tuple(behind))


def beginnings(steps, counters, sheet):
    shown = ((0,) * len(counters),) * len(sheet[0])
    state = state_behind(steps, counters, sheet, 0, shown, steps[0][0])
    return [] if state is None else [state]


def followers(steps, counters, sheet, t, state):
    """The states behind t + 1 ticks that follow a state (by its form) behind t ticks and do not break."""
    if t == ticks_of(sheet[0][0]):
        return []
    states = [state_behind(steps, counters, sheet, t, state[1], name) for name in step_of(steps, state[0])[2]]
    return [other for other in states if other is not None]


def is_state(steps, counters, sheet, value):
    if type(value) is not tuple or len(value) != 2 or type(value[0]) is not str or type(value[1]) is not tuple:
        return False
    if value[0] not in [step[0] for step in steps] or len(value[1]) != len(sheet[0]):
        return False
    for shown in value[1]:
        if type(shown) is not tuple or len(shown) != len(counters):
            return False
        for many, (_, size) in zip(shown, counters):
            if not is_int(many) or many < 0 or (size is not None and many >= size):
                return False
    return True


def is_layer(steps, counters, sheet, value):
    if type(value) is not tuple or not all(is_state(steps, counters, sheet, state) for state in value):
        return False
    return ascends(value)


def shows_stuck(steps, counters, sheet, value):
    if type(value) is not tuple or len(value) != 2 or not is_int(value[0]) or type(value[1]) is not tuple:
        return False
    t, layers = value
    if not 1 <= t <= ticks_of(sheet[0][0]) or len(layers) != t - 1:
        return False
    if not all(is_layer(steps, counters, sheet, layer) for layer in layers):
        return False
    coming = beginnings(steps, counters, sheet)
    for place in range(t - 1):
        if not set(coming) <= set(layers[place]):
            return False
        coming = [other for state in layers[place] for other in followers(steps, counters, sheet, place + 1, state)]
    return coming == []


def worth_at(steps, question, place, name, since=0, until=None):
    if place < since or (until is not None and place >= until):
        return 0
    total = 0
    for sort, told, weight in question:
        if sort == "step" and told == name:
            total += weight
        if sort == "kind":
            total += sum(many * weight for kind, many in step_of(steps, name)[1] if kind == told)
    return total


def worth(steps, question, run, since=0, until=None):
    return sum(worth_at(steps, question, place, name, since, until) for place, name in enumerate(run))


def are_rows(steps, counters, sheet, value):
    if type(value) is not tuple:
        return False
    for row in value:
        if type(row) is not tuple or len(row) != 3 or not is_int(row[0]) or not is_int(row[2]):
            return False
        if not 1 <= row[0] <= ticks_of(sheet[0][0]) or not is_state(steps, counters, sheet, row[1]):
            return False
    return ascends(value) and len({row[:2] for row in value}) == len(value)


def shows_extreme(steps, counters, sheet, question, value, heights, since, until, beyond):
    """Whether these are heights; beyond tells whether one height lies too far for another one."""
    if not are_rows(steps, counters, sheet, heights):
        return False
    known = {row[:2]: row[2] for row in heights}
    for state in beginnings(steps, counters, sheet):
        if (1, state) not in known:
            return False
        if beyond(known[1, state], worth_at(steps, question, 0, state[0], since, until)):
            return False
    for t, state, height in heights:
        if t == ticks_of(sheet[0][0]) and beyond(value, height):
            return False
        for other in followers(steps, counters, sheet, t, state):
            if (t + 1, other) not in known:
                return False
            if beyond(known[t + 1, other], height + worth_at(steps, question, t, other[0], since, until)):
                return False
    return True


def shows_least(steps, counters, sheet, question, value, heights, since=0, until=None):
    def beyond(one, other):
        return one > other
    return shows_extreme(steps, counters, sheet, question, value, heights, since, until, beyond)


def shows_greatest(steps, counters, sheet, question, value, heights, since=0, until=None):
    def beyond(one, other):
        return one < other
    return shows_extreme(steps, counters, sheet, question, value, heights, since, until, beyond)

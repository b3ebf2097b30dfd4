"""What the document says in sections 10 to 13, word for word, by listing all that there is.

Nothing here is taken from the package: programs are tuples of steps.
"""

import itertools

from tests import plain
from tests.support import is_int


# Section 10

def readings_of(sheet):
    return [(number, turn, counter) for number, record in enumerate(sheet[0]) for turn, (_, setting, _) in enumerate(record)
            for counter, kind in enumerate(setting) if kind is not None]


def missed(steps, counters, sheet, run):
    """The ascending tuple of the readings that a run of as many steps as the sheet has ticks misses."""
    found = []
    for number, turn, counter in readings_of(sheet):
        record = sheet[0][number]
        first = sum(heard[0] for heard in record[:turn])
        length, setting, counts = record[turn]
        if plain.counts_of(steps, counters, setting, run[first:first + length])[counter] != counts[counter]:
            found.append((number, turn, counter))
    return tuple(sorted(found))


def long_enough(steps, sheet):
    """All runs with just the ticks of the sheet, whole ones if it has ended."""
    runs = plain.runs_of(steps, plain.ticks_of(sheet[0][0]))
    return [run for run in runs if not sheet[1] or plain.is_whole(steps, run)]


def doubts(steps, counters, sheet):
    """(readings, run); None without a run."""
    told = [(missed(steps, counters, sheet, run), run) for run in long_enough(steps, sheet)]
    return min(told, key=lambda pair: (len(pair[0]), pair)) if told else None


def doubted_behind(steps, counters, sheet, t, shown, name):
    """(state behind t + 1 ticks, how many readings are missed by the way there); None if it breaks by the end."""
    behind, many = [], 0
    for record, ahead in zip(sheet[0], shown):
        setting, counts, _, end = plain.turn_at(record, t)
        totals = [0 if kind is None else ahead[place] + plain.totals_of(steps, setting, [name])[place]
                  for place, kind in enumerate(setting)]
        now = plain.wrapped(counters, totals)
        if end == t + 1:
            many += sum(1 for count, told in zip(counts, now) if count is not None and count != told)
            now = (0,) * len(counters)
        behind.append(now)
    if sheet[1] and t + 1 == plain.ticks_of(sheet[0][0]) and not plain.is_whole(steps, (name,)):
        return None
    return (name, tuple(behind)), many


def shows_doubts(steps, counters, sheet, value):
    if type(value) is not tuple or len(value) != 3:
        return False
    readings, run, heights = value
    if not plain.is_run(steps, run) or run not in long_enough(steps, sheet):
        return False
    if repr(readings) != repr(missed(steps, counters, sheet, run)):
        return False
    if not plain.are_rows(steps, counters, sheet, heights):
        return False
    known = {row[:2]: row[2] for row in heights}
    ticks = plain.ticks_of(sheet[0][0])
    nothing = ((0,) * len(counters),) * len(sheet[0])
    wanted = [(0, 1, doubted_behind(steps, counters, sheet, 0, nothing, steps[0][0]))]
    for t, state, height in heights:
        if t == ticks:
            if height < len(readings):
                return False
        else:
            for name in plain.step_of(steps, state[0])[2]:
                wanted.append((height, t + 1, doubted_behind(steps, counters, sheet, t, state[1], name)))
    for height, t, pair in wanted:
        if pair is not None and ((t, pair[0]) not in known or known[t, pair[0]] > height + pair[1]):
            return False
    return True


# Section 11

def whole_runs(steps, longest):
    return [run for length in range(1, longest + 1) for run in plain.runs_of(steps, length) if plain.is_whole(steps, run)]


def has_whole_run(steps):
    # A run to an end that goes round no ring has no step twice.
    return bool(whole_runs(steps, len(steps)))


def alike(steps, counters, plan, one, other):
    return plain.record_of(steps, counters, plan, one) == plain.record_of(steps, counters, plan, other)


def are_twins(steps, counters, plan, one, other):
    if not plain.is_run(steps, one) or not plain.is_run(steps, other):
        return False
    if not plain.is_whole(steps, one) or not plain.is_whole(steps, other):
        return False
    return alike(steps, counters, plan, one, other)


def ticks_of(plan):
    return sum(length for length, _ in plan)


def most_apart(steps, counters, plan, question, runs):
    """The greatest difference of two of these runs that are alike."""
    worths = {}
    for run in runs:
        record = plain.record_of(steps, counters, plan, run)
        worths.setdefault(record, []).append(plain.worth(steps, question, run))
    return max(max(some) - min(some) for some in worths.values())


def grows(steps, counters, plan, question, one, other, first, last):
    if not are_twins(steps, counters, plan, one, other) or not is_int(first) or not is_int(last):
        return False
    if not 0 < first < last or last > len(one) or (last - first) % ticks_of(plan) != 0:
        return False
    if one[first - 1] != one[last - 1] or other[first - 1] != other[last - 1]:
        return False
    if not are_twins(steps, counters, plan, one[:first] + one[last:], other[:first] + other[last:]):
        return False
    return plain.worth(steps, question, one, first, last) > plain.worth(steps, question, other, first, last)


def turn_of_tick(plan, place):
    """(setting, whether the turn ends with this tick)."""
    for length, setting in plan:
        if place < length:
            return setting, place == length - 1
        place -= length


def is_pair(steps, counters, plan, value):
    if type(value) is not tuple or len(value) != 4 or not is_int(value[0]) or not 0 <= value[0] < ticks_of(plan):
        return False
    names = [step[0] for step in steps]
    if type(value[1]) is not str or type(value[2]) is not str or value[1] not in names or value[2] not in names:
        return False
    if type(value[3]) is not tuple or len(value[3]) != len(counters):
        return False
    setting, _ = turn_of_tick(plan, value[0])
    for many, kind, (_, size) in zip(value[3], setting, counters):
        if not is_int(many) or (size is not None and not 0 <= many < size) or (kind is None and many != 0):
            return False
    return True


def pairs_behind(steps, counters, plan, pair):
    """The pair states that follow and do not break."""
    place, one, other, apart = pair
    setting, ends = turn_of_tick(plan, place)
    found = []
    for first in plain.step_of(steps, one)[2]:
        for second in plain.step_of(steps, other)[2]:
            here, there = plain.totals_of(steps, setting, [first]), plain.totals_of(steps, setting, [second])
            now = plain.wrapped(counters, [many + more - less for many, more, less in zip(apart, here, there)])
            if not ends or not any(now):
                found.append(((place + 1) % ticks_of(plan), first, second, now))
    return found


def is_end(steps, pair):
    return plain.step_of(steps, pair[1])[2] == () and plain.step_of(steps, pair[2])[2] == () and not any(pair[3])


def apart_at(steps, question, pair):
    return plain.worth(steps, question, (pair[1],)) - plain.worth(steps, question, (pair[2],))


def is_table(steps, counters, plan, question, value, table):
    if type(table) is not tuple:
        return False
    for row in table:
        if type(row) is not tuple or len(row) != 2 or not is_pair(steps, counters, plan, row[0]):
            return False
        if row[1] is not None and not is_int(row[1]):
            return False
    heights = dict(table)
    begun = (1 % ticks_of(plan), steps[0][0], steps[0][0], (0,) * len(counters))
    if len(heights) != len(table) or begun not in heights or (heights[begun] is not None and heights[begun] < 0):
        return False
    for pair, height in table:
        if is_end(steps, pair) and (height is None or height > value):
            return False
        for later in pairs_behind(steps, counters, plan, pair):
            if later not in heights or (height is None and heights[later] is not None):
                return False
            if heights[later] is not None and heights[later] < height + apart_at(steps, question, later):
                return False
    return True


def shows_unsure(steps, counters, plan, question, value):
    if type(value) is not tuple or not value or type(value[0]) is not str:
        return False
    if value[0] == "none":
        return len(value) == 1 and not has_whole_run(steps)
    if len(value) != 5:
        return False
    if value[0] == "grows":
        return grows(steps, counters, plan, question, *value[1:])
    if value[0] != "most" or not is_int(value[1]) or not are_twins(steps, counters, plan, value[2], value[3]):
        return False
    if plain.worth(steps, question, value[2]) - plain.worth(steps, question, value[3]) != value[1]:
        return False
    return is_table(steps, counters, plan, question, value[1], value[4])


# Section 12

def is_lengths(value):
    return type(value) is tuple and len(value) in (1, 2, 3) and all(is_int(part) and part in range(1, 7) for part in value)


def kinds_of(counters):
    return sorted({kind for able, _ in counters for kind in able})


def is_prices(counters, value):
    if type(value) is not tuple:
        return False
    for part in value:
        if type(part) is not tuple or len(part) != 2 or type(part[0]) is not str or not is_int(part[1]):
            return False
        if not 0 <= part[1] <= 99:
            return False
    return [part[0] for part in value] == kinds_of(counters)


def all_plans(counters, lengths):
    settings = plain.all_settings(counters)
    return [tuple(zip(lengths, some)) for some in itertools.product(settings, repeat=len(lengths))]


def cost(prices, plan):
    return sum(dict(prices)[kind] for _, setting in plan for kind in setting if kind is not None)


def plan_rank(prices, plan):
    return (cost(prices, plan), [plain.rank(setting) for _, setting in plan])


def covers(finer, plan):
    """Whether the plan is the finer one, or coarser."""
    pairs = [pair for (_, one), (_, other) in zip(finer, plan) for pair in zip(one, other)]
    return all(mine is None or mine == kind for kind, mine in pairs)


def is_cheap_row(steps, counters, lengths, question, most, row):
    if type(row) is not tuple or len(row) not in (3, 5) or not plain.is_plan(counters, row[0]):
        return False
    if repr(tuple(length for length, _ in row[0])) != repr(lengths):
        return False
    if len(row) == 5:
        return grows(steps, counters, row[0], question, *row[1:])
    if not are_twins(steps, counters, *row):
        return False
    return plain.worth(steps, question, row[1]) - plain.worth(steps, question, row[2]) > most


def shows_cheapest(steps, counters, lengths, prices, question, most, value, is_good):
    """Whether any value is right; is_good tells of a plan whether it is good."""
    if type(value) is not tuple or len(value) not in (2, 4) or type(value[0]) is not str:
        return False
    ahead = all_plans(counters, lengths)
    if len(value) == 4:
        word, price, plan, rows = value
        if word != "plan" or not is_int(price) or type(plan) is not tuple or plan not in ahead:
            return False
        if not plain.is_plan(counters, plan) or price != cost(prices, plan) or not is_good(plan):
            return False
        ahead = [other for other in ahead if plan_rank(prices, other) < plan_rank(prices, plan)]
    elif value[0] != "none":
        return False
    if type(value[-1]) is not tuple:
        return False
    if not all(is_cheap_row(steps, counters, lengths, question, most, row) for row in value[-1]):
        return False
    return all(any(covers(row[0], plan) for row in value[-1]) for plan in ahead)


# Section 13

def busy_settings(counters):
    return sorted(itertools.product(*[able for able, _ in counters]))


def runs_of_length(steps, lengths):
    return [run for run in plain.runs_of(steps, sum(lengths)) if plain.is_whole(steps, run)]


def by_counts(steps, counters, lengths, turn, setting, runs):
    """For each tuple of counts of this turn, ascending, the runs that have it."""
    first = sum(lengths[:turn])
    told = {}
    for run in runs:
        counts = plain.counts_of(steps, counters, setting, run[first:first + lengths[turn]])
        told.setdefault(counts, []).append(run)
    return {counts: told[counts] for counts in sorted(told)}


def least_left(steps, counters, lengths, question, turn, runs):
    """The least difference that some way of asking leaves of these runs."""
    worths = [plain.worth(steps, question, run) for run in runs]
    if turn == len(lengths):
        return max(worths) - min(worths)
    return min(max(least_left(steps, counters, lengths, question, turn + 1, some)
                   for some in by_counts(steps, counters, lengths, turn, setting, runs).values())
               for setting in busy_settings(counters))


def is_tree(steps, counters, lengths, question, turn, runs, value, tree):
    if type(tree) is not tuple or len(tree) != 3 or type(tree[0]) is not str:
        return False
    if turn == len(lengths):
        worths = [plain.worth(steps, question, run) for run in runs]
        return repr(tree) == repr(("tell", min(worths), max(worths))) and max(worths) - min(worths) <= value
    if tree[0] != "count" or type(tree[1]) is not tuple or tree[1] not in busy_settings(counters):
        return False
    if type(tree[2]) is not tuple or not all(type(row) is tuple and len(row) == 2 for row in tree[2]):
        return False
    told = by_counts(steps, counters, lengths, turn, tree[1], runs)
    if repr([row[0] for row in tree[2]]) != repr(list(told)):
        return False
    return all(is_tree(steps, counters, lengths, question, turn + 1, told[counts], value, part) for counts, part in tree[2])


def is_other(steps, counters, lengths, question, turn, runs, value, tree):
    if type(tree) is not tuple or len(tree) not in (2, 3) or type(tree[0]) is not str:
        return False
    if turn == len(lengths):
        if len(tree) != 3 or tree[0] != "twins" or any(type(run) is not tuple or run not in runs for run in tree[1:]):
            return False
        return plain.worth(steps, question, tree[1]) - plain.worth(steps, question, tree[2]) >= value
    if len(tree) != 2 or tree[0] != "whatever" or type(tree[1]) is not tuple:
        return False
    if not all(type(row) is tuple and len(row) == 3 for row in tree[1]):
        return False
    if repr([row[0] for row in tree[1]]) != repr(busy_settings(counters)):
        return False
    for setting, counts, part in tree[1]:
        told = by_counts(steps, counters, lengths, turn, setting, runs)
        some = [told[real] for real in told if repr(real) == repr(counts)]
        if not some or not is_other(steps, counters, lengths, question, turn + 1, some[0], value, part):
            return False
    return True


def shows_best(steps, counters, lengths, question, value):
    runs = runs_of_length(steps, lengths)
    if not runs or type(value) is not tuple or len(value) != 3 or not is_int(value[0]):
        return False
    if not is_tree(steps, counters, lengths, question, 0, runs, value[0], value[1]):
        return False
    return is_other(steps, counters, lengths, question, 0, runs, value[0], value[2])

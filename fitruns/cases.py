"""Cases: what was counted of one run, by one or two strands.

A case is (plans, strands, left, closed): a plan for each strand; for each strand the tuple of the turns that were
heard, each (length, setting, counts); the ascending tuple of the readings (strand, turn, counter) that are left out;
and whether the run has ended.
"""

from fitruns.errors import BadCounts, BadLength, NoReading, NoStrand, Over, Stuck, TooLong, Uneven
from fitruns.fitting import stuck
from fitruns.forms import is_integer_within
from fitruns.records import are_counts

MOST_TICKS = 40


def new_case(plans):
    """A case of which nothing was heard yet."""
    return (plans, ((),) * len(plans), (), False)


def closed_case(case):
    """The case, its run ended with its last tick."""
    plans, strands, left, _ = case
    return (plans, strands, left, True)


def is_closed(case):
    """Whether the run of the case has ended."""
    return case[3]


def ticks_of(case):
    """The tuple of the ticks of the strands."""
    return tuple([sum([length for length, _, _ in strand]) for strand in case[1]])


def stands(case):
    """Whether the strands have equally many ticks, at least one."""
    ticks = ticks_of(case)
    return ticks[0] > 0 and ticks[0] == ticks[-1]


def check_even(case):
    """Raise Uneven for a case that does not stand."""
    if not stands(case):
        raise Uneven(ticks_of(case))


def check_strand(case, strand):
    """Raise NoStrand for any value that is no number of a strand of the case."""
    if not is_integer_within(strand, 0, len(case[0]) - 1):
        raise NoStrand(strand)


def _is_over(plan, heard):
    """Whether the last turn of a strand was cut short."""
    return len(heard) > 0 and heard[-1][0] < plan[(len(heard) - 1) % len(plan)][0]


def with_turn(counters, case, strand, counts, length):
    """The case with the next turn of a strand, cut short if the length is not None; checks what was heard."""
    plans, strands, left, closed = case
    plan, heard = plans[strand], strands[strand]
    most, setting = plan[len(heard) % len(plan)]
    if not are_counts(counters, setting, counts):
        raise BadCounts(counts)
    if length is not None and not is_integer_within(length, 1, most):
        raise BadLength(length)
    if _is_over(plan, heard):
        raise Over(strand)
    took = most if length is None else length
    ticks = ticks_of(case)[strand] + took
    if ticks > MOST_TICKS:
        raise TooLong(ticks)
    longer = heard + ((took, setting, counts),)
    return (plans, strands[:strand] + (longer,) + strands[strand + 1:], left, closed)


def _is_reading(case, strand, turn, counter):
    heard = case[1][strand]
    if not is_integer_within(turn, 0, len(heard) - 1):
        return False
    setting = heard[turn][1]
    return is_integer_within(counter, 0, len(setting) - 1) and setting[counter] is not None


def without_reading(case, strand, turn, counter):
    """The case with a reading left out that counts so far."""
    plans, strands, left, closed = case
    if not _is_reading(case, strand, turn, counter) or (strand, turn, counter) in left:
        raise NoReading((turn, counter))
    return (plans, strands, tuple(sorted(left + ((strand, turn, counter),))), closed)


def with_reading(case, strand, turn, counter):
    """The case with a reading that is left out so far."""
    plans, strands, left, closed = case
    if not _is_reading(case, strand, turn, counter) or (strand, turn, counter) not in left:
        raise NoReading((turn, counter))
    return (plans, strands, tuple([reading for reading in left if reading != (strand, turn, counter)]), closed)


def _as_on_nothing(turn, counters):
    """A turn as if these counters had been on nothing."""
    length, setting, counts = turn
    kept = [counter not in counters for counter in range(len(setting))]
    kinds = tuple([kind if keeps else None for kind, keeps in zip(setting, kept)])
    return (length, kinds, tuple([count if keeps else None for count, keeps in zip(counts, kept)]))


def sheet_of(case):
    """The sheet of a case that stands."""
    _, strands, left, closed = case
    records = []
    for strand, heard in enumerate(strands):
        record = []
        for number, turn in enumerate(heard):
            record.append(_as_on_nothing(turn, [reading[2] for reading in left if reading[:2] == (strand, number)]))
        records.append(tuple(record))
    return (tuple(records), closed)


def check_fits(program, counters, case):
    """Raise Stuck for a case that stands and that no run fits."""
    told = stuck(program, counters, sheet_of(case)) if stands(case) else None
    if told is not None:
        raise Stuck(told[0])

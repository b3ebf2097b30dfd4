"""What totals over the runs that fit a sheet are sure: the least and the greatest worth, and heights that show them."""

from fitruns.fitting import Course, fitting_layers, least_run
from fitruns.forms import is_integer
from fitruns.heights import are_heights, lowest_heights, show_no_less
from fitruns.questions import check_question, check_range, worths_of_steps


class Asked:
    """A question asked of a sheet: its course, and what each step is worth at each place.

    The greatest worth is the least one of the question with all worths negated: then sign is -1 instead of 1.
    """

    def __init__(self, program, counters, sheet, question, since, until, sign):
        self.course = Course(program, counters, sheet)
        check_question(question)
        check_range(since, until)
        self.sign = sign
        worths = worths_of_steps(program, question)
        signed = {name: sign * worths[name] for name in worths}
        nothing = {name: 0 for name in worths}
        end = self.course.ticks if until is None else until
        self.gains = [signed if since <= place < end else nothing for place in range(self.course.ticks)]

    def openings(self):
        """Pairs (state, gain) for the one state behind one tick, if it does not break."""
        return [(state, self.gains[0][state[0]]) for state in self.course.beginnings()]

    def leads(self, t, state):
        """Pairs (state, gain) for what follows this state behind t ticks and does not break."""
        return [(follower, self.gains[t][follower[0]]) for follower in self.course.followers(t, state)]


def _gains_ahead(layers, gains):
    """For each layer a dict of the least worth that runs gain behind each state up to the last layer."""
    ahead = [{state: 0 for state in layers[-1]}]
    for t in range(len(layers) - 1, 0, -1):
        gain, later = gains[t], ahead[-1]
        least_gains = {}
        for state, followers in layers[t - 1].items():
            least_gains[state] = min([gain[part[0]] + later[part] for part in followers])
        ahead.append(least_gains)
    return ahead[::-1]


def _least_gain(layers, gains):
    """The least worth of a run through the layers."""
    ahead = _gains_ahead(layers, gains)
    return min([gains[0][state[0]] + many for state, many in ahead[0].items()])


def _cheapest_layers(layers, gains):
    """The layers without the followers through which no run with the least worth goes."""
    ahead = _gains_ahead(layers, gains)
    kept = []
    for t in range(1, len(layers)):
        gain, later, total = gains[t], ahead[t], ahead[t - 1]
        cheapest = {}
        for state, followers in layers[t - 1].items():
            cheapest[state] = [part for part in followers if gain[part[0]] + later[part] == total[state]]
        kept.append(cheapest)
    return kept + [layers[-1]]


def _both_ends(layers, gains):
    """The least and the greatest worth of a run through the layers."""
    negated = [{name: -gain[name] for name in gain} for gain in gains]
    return (_least_gain(layers, gains), -_least_gain(layers, negated))


def bounds(program, counters, sheet, question, *, since=0, until=None):
    """The least and the greatest worth of the runs that fit, None without one."""
    asked = Asked(program, counters, sheet, question, since, until, 1)
    layers = fitting_layers(asked.course)
    return _both_ends(layers, asked.gains) if layers else None


def sure(program, counters, sheet, question, *, since=0, until=None):
    """The worth that all runs that fit have, None if they differ or there is none."""
    both = bounds(program, counters, sheet, question, since=since, until=until)
    return both[0] if both is not None and both[0] == both[1] else None


def visits(program, counters, sheet):
    """For each step (name, least, greatest): how often runs that fit are there; None without one."""
    course = Course(program, counters, sheet)
    layers = fitting_layers(course)
    if not layers:
        return None
    rows = []
    for name in program.names:
        gain = {other: 1 if other == name else 0 for other in program.names}
        rows.append((name,) + _both_ends(layers, [gain] * course.ticks))
    return tuple(rows)


def _extreme(asked):
    """(value, run, heights) of least, and of greatest if the sign is -1."""
    layers = fitting_layers(asked.course)
    if not layers:
        return None
    value = asked.sign * _least_gain(layers, asked.gains)
    run = least_run(_cheapest_layers(layers, asked.gains))
    heights = [(t, state, asked.sign * height) for t, state, height in lowest_heights(asked)]
    return (value, run, tuple(heights))


def _shows_extreme(asked, value, heights):
    """Whether any heights show that no run that fits lies below the value, or above it if the sign is -1."""
    if not is_integer(value) or not are_heights(asked.course, heights):
        return False
    rows = [(t, state, asked.sign * height) for t, state, height in heights]
    return show_no_less(asked, rows, asked.sign * value)


def least(program, counters, sheet, question, *, since=0, until=None):
    """(value, run, heights): the least worth, the least run that has it, and heights that show it; None without one."""
    return _extreme(Asked(program, counters, sheet, question, since, until, 1))


def shows_least(program, counters, sheet, question, value, heights, *, since=0, until=None):
    """Whether any heights show that no run that fits has a lesser worth than the value."""
    return _shows_extreme(Asked(program, counters, sheet, question, since, until, 1), value, heights)


def greatest(program, counters, sheet, question, *, since=0, until=None):
    """(value, run, heights): the greatest worth, the least run that has it, and heights; None without one."""
    return _extreme(Asked(program, counters, sheet, question, since, until, -1))


def shows_greatest(program, counters, sheet, question, value, heights, *, since=0, until=None):
    """Whether any heights show that no run that fits has a greater worth than the value."""
    return _shows_extreme(Asked(program, counters, sheet, question, since, until, -1), value, heights)

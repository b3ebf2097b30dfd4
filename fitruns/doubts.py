"""Doubts: the fewest readings of a sheet that must be wrong, and heights that show that no run misses fewer."""

from fitruns.fitting import Course
from fitruns.forms import is_integer, is_row
from fitruns.heights import are_heights, lowest_heights, show_no_less


class Doubted:
    """A course through which runs go on whatever they miss; what they gain is how many readings that are."""

    def __init__(self, program, counters, sheet):
        self.course = Course(program, counters, sheet)

    def openings(self):
        """Pairs (state, gain) for the one state behind one tick, if it does not break by the end."""
        return [(state, len(missed)) for state, missed in self.course.openings()]

    def leads(self, t, state):
        """Pairs (state, gain) for what follows this state behind t ticks and does not break by the end."""
        return [(follower, len(missed)) for follower, missed in self.course.leads(t, state)]


def _layers(course):
    """For 1, 2 .. ticks, while there are any, a dict of the states that runs come to, each with what it leads to."""
    layers = []
    states = [state for state, _ in course.openings()]
    while states:
        t = len(layers) + 1
        layer = {state: course.leads(t, state) for state in states}
        layers.append(layer)
        states = list({follower: True for leads in layer.values() for follower, _ in leads})
    return layers


def _readings(sheet):
    """All readings of a sheet, ascending."""
    readings = []
    for place, heard in enumerate(sheet[0]):
        for turn, (_, setting, _) in enumerate(heard):
            readings.extend([(place, turn, counter) for counter, kind in enumerate(setting) if kind is not None])
    return readings


def _prices(readings):
    """A price for each reading, such that fewer readings cost less, and of equally many the least tuple."""
    weights = {}
    weight = 1
    for reading in reversed(readings):
        weights[reading] = weight
        weight += weight
    # The weight is now more than all weights together: one reading less always saves more than others can cost.
    return {reading: weight - weights[reading] for reading in weights}


def _cost(missed, prices):
    return sum([prices[reading] for reading in missed])


def _costs_ahead(layers, prices):
    """For each layer a dict of the least cost behind each state that leads up to the last layer."""
    ahead = [{state: 0 for state in layers[-1]}]
    for layer in reversed(layers[:-1]):
        later = ahead[-1]
        costs = {}
        for state, leads in layer.items():
            ways = [_cost(missed, prices) + later[follower] for follower, missed in leads if follower in later]
            if ways:
                costs[state] = min(ways)
        ahead.append(costs)
    return ahead[::-1]


def _cheapest(course, prices):
    """(readings, run) with the least cost, the run the least one that misses just these readings; None without one."""
    layers = _layers(course)
    if len(layers) < course.ticks:
        return None
    leads = course.openings()
    readings, run = [], []
    for layer, costs in zip(layers, _costs_ahead(layers, prices)):
        ways = [(_cost(missed, prices) + costs[part], part, missed) for part, missed in leads if part in costs]
        # Of equal costs the least step: what a state leads to is at different steps.
        _, state, missed = min(ways)
        run.append(state[0])
        readings.extend(missed)
        leads = layer[state]
    return tuple(sorted(readings)), tuple(run)


def doubts(program, counters, sheet):
    """(readings, run, heights): the fewest readings that a run misses, and heights; None if no run is so long."""
    ways = Doubted(program, counters, sheet)
    found = _cheapest(ways.course, _prices(_readings(sheet)))
    if found is None:
        return None
    return found + (tuple(lowest_heights(ways)),)


def _missed_by(course, run):
    """The ascending tuple of the readings that a run misses; None if it has not the ticks, or breaks by the end."""
    if len(run) != course.ticks:
        return None
    readings = []
    leads = course.openings()
    for place, name in enumerate(run):
        taken = [pair for pair in leads if pair[0][0] == name]
        if not taken:
            return None
        state, missed = taken[0]
        readings.extend(missed)
        leads = course.leads(place + 1, state)
    return tuple(sorted(readings))


def _is_reading(value):
    return is_row(value, 3) and all([is_integer(part) for part in value])


def shows_doubts(program, counters, sheet, value):
    """Whether any value is (readings, run, heights) that show which readings are the fewest that must be wrong."""
    ways = Doubted(program, counters, sheet)
    if not is_row(value, 3) or not program.is_run(value[1]):
        return False
    readings, run, heights = value
    if not isinstance(readings, tuple) or not all([_is_reading(part) for part in readings]):
        return False
    if readings != _missed_by(ways.course, run) or not are_heights(ways.course, heights):
        return False
    return show_no_less(ways, heights, len(readings))

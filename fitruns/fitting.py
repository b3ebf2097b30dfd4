"""Runs that fit a sheet: the states that they go through, how many they are, and why there may be none."""

from fitruns.counters import check_counters
from fitruns.errors import BadTick, NoFit, NoRun
from fitruns.forms import is_ascending, is_integer_from, is_integer_within, is_row
from fitruns.programs import check_run
from fitruns.records import agrees, check_sheet, counted, happenings_by_step


def _turns_by_tick(heard):
    """A list with (setting, turn, shown) for each tick: shown what the counters show where the turn ends, else None."""
    turns = []
    for turn, (length, setting, counts) in enumerate(heard):
        turns.extend([(setting, turn, None)] * (length - 1))
        # A counter on nothing shows 0, so that its None can be compared like any other count.
        turns.append((setting, turn, tuple([0 if count is None else count for count in counts])))
    return turns


class Course:
    """What a sheet tells from tick to tick: how the states of runs begin and follow, and which ones break."""

    def __init__(self, program, counters, sheet):
        check_counters(counters)
        check_sheet(counters, sheet)
        records, ended = sheet
        self.program = program
        self.counters = counters
        self.ended = ended
        self._turns = [_turns_by_tick(heard) for heard in records]
        self._happened = happenings_by_step(program)
        self._nothing = (0,) * len(counters)
        self.ticks = len(self._turns[0])

    def _stepped(self, tick, shown, name):
        """What is shown for each record behind this tick in this step, and the readings of others than its counts."""
        behind, missed = [], []
        for place, (turns, ahead) in enumerate(zip(self._turns, shown)):
            setting, turn, wanted = turns[tick]
            part = counted(self.counters, setting, ahead, self._happened[name])
            behind.append(part if wanted is None else self._nothing)
            if wanted is not None and part != wanted:
                differing = [counter for counter, many in enumerate(part) if many != wanted[counter]]
                missed.extend([(place, turn, counter) for counter in differing])
        return tuple(behind), missed

    def _goes_on_at_the_end(self, tick, name):
        return self.ended and tick == self.ticks - 1 and len(self.program.following(name)) > 0

    def _entered(self, tick, shown, names):
        """Pairs (state behind this tick, missed readings) for each of these steps that does not break by the end."""
        pairs = []
        for name in names:
            if not self._goes_on_at_the_end(tick, name):
                behind, missed = self._stepped(tick, shown, name)
                pairs.append(((name, behind), missed))
        return pairs

    def openings(self):
        """A list of the one pair (state behind one tick, missed readings), empty if it breaks by the end."""
        return self._entered(0, (self._nothing,) * len(self._turns), self.program.names[:1])

    def leads(self, t, state):
        """Pairs (state, missed readings) for what follows behind t ticks and does not break by the end, ascending."""
        if t == self.ticks:
            return []
        name, shown = state
        return self._entered(t, shown, self.program.following(name))

    def beginnings(self):
        """A list of the one state behind one tick, empty if it breaks."""
        return [state for state, missed in self.openings() if len(missed) == 0]

    def followers(self, t, state):
        """The list of the states that follow this one behind t ticks and do not break, ascending."""
        return [follower for follower, missed in self.leads(t, state) if len(missed) == 0]

    def _is_shown(self, value):
        if not is_row(value, len(self.counters)):
            return False
        parts = list(zip(value, self.counters))
        return all([is_integer_from(many, 0) and (size is None or many < size) for many, (_, size) in parts])

    def is_state(self, value):
        """Whether any value is a state by its form."""
        if not is_row(value, 2) or value[0] not in self.program.names:
            return False
        return is_row(value[1], len(self._turns)) and all([self._is_shown(part) for part in value[1]])


def reached_layers(course):
    """For 1, 2 .. ticks, while there are any, a dict of the states that runs come to, each with its followers."""
    layers = []
    states = course.beginnings()
    while states:
        t = len(layers) + 1
        layer = {state: course.followers(t, state) for state in states}
        layers.append(layer)
        states = list({follower: True for followers in layer.values() for follower in followers})
    return layers


def _leading(layer, later):
    """The part of a layer from which the later one can be reached."""
    leading = {}
    for state, followers in layer.items():
        kept = [follower for follower in followers if follower in later]
        if kept:
            leading[state] = kept
    return leading


def fitting_layers(course):
    """The layers with the states of runs that fit alone; an empty list if none fits."""
    layers = reached_layers(course)
    if len(layers) < course.ticks:
        return []
    kept = [layers[-1]]
    for layer in reversed(layers[:-1]):
        kept.append(_leading(layer, kept[-1]))
    return kept[::-1]


def least_run(layers):
    """The least run through layers in which each state has a follower, but in the last one."""
    run = []
    states = list(layers[0])
    for layer in layers:
        run.append(states[0][0])
        states = layer[states[0]]
    return tuple(run)


def _ways(layers):
    """For each layer a dict that tells in how many ways runs go on from each state up to the last layer."""
    if not layers:
        return []
    ways = [{state: 1 for state in layers[-1]}]
    for layer in reversed(layers[:-1]):
        later = ways[-1]
        ways.append({state: sum([later[part] for part in followers]) for state, followers in layer.items()})
    return ways[::-1]


def _many_runs(ways):
    return sum(ways[0].values()) if ways else 0


def _passing(states, many, index):
    """The state through which the run with this index goes, and its index among those that go there."""
    for state in states[:-1]:
        if index < many[state]:
            return state, index
        index -= many[state]
    return states[-1], index


def fitting(program, counters, sheet):
    """The least run that fits, None without one."""
    layers = fitting_layers(Course(program, counters, sheet))
    return least_run(layers) if layers else None


def stuck(program, counters, sheet):
    """None if a run fits, otherwise the least t by which each run has broken, and the layers of states ahead of it."""
    course = Course(program, counters, sheet)
    layers = reached_layers(course)
    if len(layers) == course.ticks:
        return None
    return (len(layers) + 1, tuple([tuple(sorted(layer)) for layer in layers]))


def _is_layer(course, value):
    return isinstance(value, tuple) and all([course.is_state(state) for state in value]) and is_ascending(value)


def _all_in(states, layer):
    known = {state: True for state in layer}
    return all([state in known for state in states])


def _all_break_behind(course, layers):
    """Whether each layer has what comes behind the one ahead of it, and nothing comes behind the last one."""
    states = course.beginnings()
    for t, layer in enumerate(layers, start=1):
        if not _all_in(states, layer):
            return False
        states = [follower for state in layer for follower in course.followers(t, state)]
    return len(states) == 0


def shows_stuck(program, counters, sheet, value):
    """Whether any value is (t, layers) that show that each run has broken by t ticks."""
    course = Course(program, counters, sheet)
    if not is_row(value, 2) or not is_integer_within(value[0], 1, course.ticks):
        return False
    t, layers = value
    if not is_row(layers, t - 1) or not all([_is_layer(course, layer) for layer in layers]):
        return False
    return _all_break_behind(course, layers)


def where(program, counters, sheet, tick):
    """The ascending tuple of the steps at which runs that fit are at this tick."""
    course = Course(program, counters, sheet)
    if not is_integer_within(tick, 0, course.ticks - 1):
        raise BadTick(tick)
    layers = fitting_layers(course)
    if not layers:
        return ()
    return tuple(sorted({state[0] for state in layers[tick]}))


def how_many(program, counters, sheet):
    """How many runs fit."""
    return _many_runs(_ways(fitting_layers(Course(program, counters, sheet))))


def nth(program, counters, sheet, index):
    """The run with this index among those that fit, ascending."""
    layers = fitting_layers(Course(program, counters, sheet))
    ways = _ways(layers)
    if not is_integer_within(index, 0, _many_runs(ways) - 1):
        raise NoRun(index)
    run = []
    states, left = list(layers[0]), index
    for layer, many in zip(layers, ways):
        state, left = _passing(states, many, left)
        run.append(state[0])
        states = layer[state]
    return tuple(run)


def index_of(program, counters, sheet, run):
    """How many runs that fit are less than this one."""
    course = Course(program, counters, sheet)
    check_run(program, run)
    if not agrees(program, counters, sheet, run):
        raise NoFit(run)
    layers = fitting_layers(course)
    ways = _ways(layers)
    index = 0
    states = list(layers[0])
    for name, layer, many in zip(run, layers, ways):
        # The followers of a state are ascending, and each one is at another step.
        index += sum([many[state] for state in states if state[0] < name])
        states = [part for state in states if state[0] == name for part in layer[state]]
    return index

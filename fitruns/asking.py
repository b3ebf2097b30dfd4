"""The best way to choose each turn's setting by what was counted ahead of it."""

from fitruns.counters import check_counters, rows_over
from fitruns.errors import TooMany
from fitruns.forms import is_integer, is_row
from fitruns.questions import check_question, worth, worths_of_steps
from fitruns.records import agrees, are_counts, check_lengths, counted, happenings_by_step
from fitruns.totals import greatest, least


def _check_number(counters, lengths):
    """Raise TooMany if there are more than 256 ways to choose a setting for each turn."""
    number = 1
    for _ in lengths:
        for able, _ in counters:
            number *= len(able)
    if number > 256:
        raise TooMany(number)


def _leading_steps(program, ticks):
    """For each of so many ticks a dict of the steps from which a run can come to its end with just the last tick."""
    leading = [{name: True for name in program.names if len(program.following(name)) == 0}]
    for _ in range(ticks - 1):
        later = leading[-1]
        names = [name for name in program.names if any([part in later for part in program.following(name)])]
        leading.append({name: True for name in names})
    return leading[::-1]


def _add(spans, key, least_worth, greatest_worth):
    """Widen the span (least, greatest) under this key, so that these worths lie in it."""
    low, high = spans.get(key, (least_worth, greatest_worth))
    spans[key] = (min(low, least_worth), max(high, greatest_worth))


def _apart(spans):
    """The least and the greatest worth of all spans."""
    return min([low for low, _ in spans.values()]), max([high for _, high in spans.values()])


class Asking:
    """The whole runs of just as many steps as some turns have ticks; checks what it is passed.

    Of the runs with some counts on the way only this is kept: spans, a dict that gives for each step at which they
    are the least and the greatest worth so far. What they can go on to hangs on the step alone. Ahead of all turns
    the step is None.
    """

    def __init__(self, program, counters, lengths, question):
        check_counters(counters)
        check_lengths(lengths)
        check_question(question)
        _check_number(counters, lengths)
        self.program = program
        self.counters = counters
        self.lengths = lengths
        self.question = question
        self.settings = rows_over([able for able, _ in counters])
        self._leading = _leading_steps(program, sum(lengths))
        self._happened = happenings_by_step(program)
        self._worths = worths_of_steps(program, question)
        self._known_gains = {}
        self._known_values = {}

    def has_runs(self):
        """Whether there is a whole run of this length."""
        return self.program.names[0] in self._leading[0]

    def begun(self):
        """The spans ahead of all turns."""
        return {None: (0, 0)}

    def _next_steps(self, tick, name):
        names = self.program.names[:1] if name is None else self.program.following(name)
        return [part for part in names if part in self._leading[tick]]

    def _stepped(self, setting, tick, states):
        """The spans of what is gained behind this tick, for each (step, shown), by those ahead of it."""
        behind = {}
        for (name, shown), (low, high) in states.items():
            for part in self._next_steps(tick, name):
                now = counted(self.counters, setting, shown, self._happened[part])
                _add(behind, (part, now), low + self._worths[part], high + self._worths[part])
        return behind

    def _gains(self, turn, setting, name):
        """For each counts of this turn behind this step, the spans of what runs gain in it, by the steps behind it."""
        key = (turn, setting, name)
        if key not in self._known_gains:
            first = sum(self.lengths[:turn])
            states = {(name, (0,) * len(self.counters)): (0, 0)}
            for tick in range(first, first + self.lengths[turn]):
                states = self._stepped(setting, tick, states)
            gains = {}
            for (part, counts), span in states.items():
                later = gains.setdefault(counts, {})
                later[part] = span
            self._known_gains[key] = gains
        return self._known_gains[key]

    def after(self, turn, setting, spans):
        """A dict from the counts that such runs can have in this turn to the spans behind it, ascending."""
        found = {}
        for name, (low, high) in spans.items():
            for counts, gains in self._gains(turn, setting, name).items():
                later = found.setdefault(counts, {})
                for part, (less, more) in gains.items():
                    _add(later, part, low + less, high + more)
        return {counts: found[counts] for counts in sorted(list(found))}

    def least_left(self, turn, spans):
        """The least difference that can be left of such runs, by choosing from this turn on."""
        low, high = _apart(spans)
        if turn == len(self.lengths):
            return high - low
        # Worths that are all shifted by the same leave the same differences.
        key = (turn, tuple([(name, spans[name][0] - low, spans[name][1] - low) for name in sorted(list(spans))]))
        if key not in self._known_values:
            self._known_values[key] = min([self._worst(turn, setting, spans)[0] for setting in self.settings])
        return self._known_values[key]

    def _worst(self, turn, setting, spans):
        """The difference that is left with this setting, whatever is counted, and the first counts that leave it."""
        later = self.after(turn, setting, spans)
        return max([(self.least_left(turn + 1, later[counts]), counts) for counts in later], key=lambda pair: pair[0])

    def tree(self, turn, spans):
        """A tree that chooses so that no more is left than has to be."""
        if turn == len(self.lengths):
            return ("tell",) + _apart(spans)
        chosen = min(self.settings, key=lambda setting: self._worst(turn, setting, spans)[0])
        later = self.after(turn, chosen, spans)
        return ("count", chosen, tuple([(counts, self.tree(turn + 1, later[counts])) for counts in later]))

    def other_tree(self, turn, spans, way):
        """A tree with counts that leave the most for each setting; the way has the turns ahead with their counts."""
        if turn == len(self.lengths):
            told = (self.program, self.counters, ((way,), True), self.question)
            return ("twins", greatest(*told)[1], least(*told)[1])
        rows = []
        for setting in self.settings:
            _, counts = self._worst(turn, setting, spans)
            later = self.after(turn, setting, spans)[counts]
            heard = (self.lengths[turn], setting, counts)
            rows.append((setting, counts, self.other_tree(turn + 1, later, way + (heard,))))
        return ("whatever", tuple(rows))

    def is_tree(self, turn, spans, value, most):
        """Whether any value is a tree for such runs whose leaves differ by no more than this."""
        if not is_row(value, 3):
            return False
        if turn == len(self.lengths):
            word, low, high = value
            return word == "tell" and is_integer(low) and is_integer(high) and self._tells(spans, low, high, most)
        word, setting, rows = value
        if word != "count" or setting not in self.settings or not isinstance(rows, tuple):
            return False
        if not all([is_row(row, 2) and are_counts(self.counters, setting, row[0]) for row in rows]):
            return False
        later = self.after(turn, setting, spans)
        if [counts for counts, _ in rows] != list(later):
            return False
        return all([self.is_tree(turn + 1, later[counts], part, most) for counts, part in rows])

    def _tells(self, spans, low, high, most):
        return (low, high) == _apart(spans) and high - low <= most

    def is_other_tree(self, turn, value, way, fewest):
        """Whether any value is an other tree behind these turns, all of whose twins differ by at least this."""
        if turn == len(self.lengths):
            return is_row(value, 3) and value[0] == "twins" and self._are_twins(value[1], value[2], way, fewest)
        if not is_row(value, 2) or value[0] != "whatever" or not isinstance(value[1], tuple):
            return False
        rows = value[1]
        if not all([is_row(row, 3) for row in rows]) or [row[0] for row in rows] != self.settings:
            return False
        return all([self._is_other_row(turn, row, way, fewest) for row in rows])

    def _is_other_row(self, turn, row, way, fewest):
        setting, counts, part = row
        if not are_counts(self.counters, setting, counts):
            return False
        return self.is_other_tree(turn + 1, part, way + ((self.lengths[turn], setting, counts),), fewest)

    def _are_twins(self, one, other, way, fewest):
        """Whether any values are whole runs with all these counts that differ by at least so much."""
        sheet = ((way,), True)
        for run in (one, other):
            if not self.program.is_run(run) or not agrees(self.program, self.counters, sheet, run):
                return False
        return worth(self.program, self.question, one) - worth(self.program, self.question, other) >= fewest


def best(program, counters, lengths, question):
    """(value, tree, other): what the best way of asking leaves, and trees that show it; None without such a run."""
    asking = Asking(program, counters, lengths, question)
    if not asking.has_runs():
        return None
    begun = asking.begun()
    return (asking.least_left(0, begun), asking.tree(0, begun), asking.other_tree(0, begun, ()))


def shows_best(program, counters, lengths, question, value):
    """Whether any value is (value, tree, other) that show what the best way of asking leaves."""
    asking = Asking(program, counters, lengths, question)
    if not asking.has_runs() or not is_row(value, 3) or not is_integer(value[0]):
        return False
    most, tree, other = value
    return asking.is_tree(0, asking.begun(), tree, most) and asking.is_other_tree(0, other, (), most)

"""Pair states of two runs of one length that are to look alike under a plan: how they begin, follow and end."""

from fitruns.forms import is_integer, is_integer_within, is_row
from fitruns.questions import worths_of_steps
from fitruns.records import happenings_by_step


def _turns_by_tick(plan):
    """A list with (setting, whether the turn ends) for each tick of a plan."""
    turns = []
    for length, setting in plan:
        turns.extend([(setting, False)] * (length - 1) + [(setting, True)])
    return turns


class Pairs:
    """The pair states under a plan, and what the first run gains over the second one. What is passed is right."""

    def __init__(self, program, counters, plan, question):
        self.program = program
        self.counters = counters
        self.plan = plan
        self.question = question
        self._turns = _turns_by_tick(plan)
        self.ticks = len(self._turns)
        self._sizes = [size for _, size in counters]
        self._happened = happenings_by_step(program)
        self._worths = worths_of_steps(program, question)
        self._nothing = (0,) * len(counters)
        self._known_moves = {}

    def beginning(self):
        """The pair state behind one tick; it never breaks, as both runs are at the same step."""
        first = self.program.names[0]
        return (1 % self.ticks, first, first, self._nothing)

    def gain(self, pair):
        """The worth of the first step less that of the second one."""
        return self._worths[pair[1]] - self._worths[pair[2]]

    def is_end(self, pair):
        """Whether nothing follows both steps, and nothing tells the runs apart."""
        _, one, other, apart = pair
        if len(self.program.following(one)) > 0 or len(self.program.following(other)) > 0:
            return False
        return apart == self._nothing

    def _differences(self, setting, one, other):
        """For each counter how much more it counts in the one step than in the other one."""
        here, there = self._happened[one], self._happened[other]
        return [0 if kind is None else here.get(kind, 0) - there.get(kind, 0) for kind in setting]

    def _moves(self, setting, one, other):
        """What two steps can go on to: a list of (step, step, differences)."""
        key = (setting, one, other)
        if key not in self._known_moves:
            moves = []
            for first in self.program.following(one):
                for second in self.program.following(other):
                    moves.append((first, second, self._differences(setting, first, second)))
            self._known_moves[key] = moves
        return self._known_moves[key]

    def followers(self, pair):
        """The list of the pair states that follow this one and do not break."""
        place, one, other, ahead = pair
        setting, ends = self._turns[place]
        later = (place + 1) % self.ticks
        states = []
        for first, second, more in self._moves(setting, one, other):
            sums = [many + less for many, less in zip(ahead, more)]
            apart = tuple([many if size is None else many % size for many, size in zip(sums, self._sizes)])
            # Behind a turn all differences are 0, or the pair breaks.
            if not ends or apart == self._nothing:
                states.append((later, first, second, apart))
        return states

    def _are_differences(self, setting, value):
        if not is_row(value, len(self._sizes)) or not all([is_integer(many) for many in value]):
            return False
        if any([kind is None and many != 0 for kind, many in zip(setting, value)]):
            return False
        return all([size is None or 0 <= many < size for many, size in zip(value, self._sizes)])

    def is_pair(self, value):
        """Whether any value is a pair state by its form."""
        if not is_row(value, 4) or not is_integer_within(value[0], 0, self.ticks - 1):
            return False
        if value[1] not in self.program.names or value[2] not in self.program.names:
            return False
        return self._are_differences(self._turns[value[0]][0], value[3])

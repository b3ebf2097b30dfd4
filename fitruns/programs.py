"""Programs: steps that follow one another, each with its happenings, and their runs."""

from fitruns.errors import BadLength, BadProgram, BadRun, NoKind, NoStep
from fitruns.forms import are_names, is_ascending, is_integer_within, is_name, is_row


def _is_happening(value):
    return is_row(value, 2) and is_name(value[0]) and is_integer_within(value[1], 1, 5)


def _are_happenings(value):
    if not isinstance(value, tuple) or not all([_is_happening(part) for part in value]):
        return False
    # The kinds alone have to ascend: the pairs would let a kind come twice, with two numbers.
    return is_ascending([kind for kind, _ in value])


def _is_step(value):
    if not is_row(value, 3) or not is_name(value[0]) or not _are_happenings(value[1]):
        return False
    return are_names(value[2]) and len(value[2]) <= 3


def _are_steps(value):
    if not isinstance(value, tuple) or len(value) == 0 or not all([_is_step(step) for step in value]):
        return False
    names = [step[0] for step in value]
    if len(set(names)) < len(names):
        return False
    return all([follower in names for step in value for follower in step[2]])


def _lasting(steps, most):
    """A list of lists: at each index up to most the names behind which a run can go on by so many steps."""
    lasting = [[step[0] for step in steps]]
    for _ in range(most):
        shorter = lasting[-1]
        lasting.append([step[0] for step in steps if any([follower in shorter for follower in step[2]])])
    return lasting


class Program:
    """A program, given by the tuple of its steps (name, happenings, following)."""

    def __init__(self, steps):
        if not _are_steps(steps):
            raise BadProgram(steps)
        self.steps = steps
        self.names = tuple([step[0] for step in steps])
        self.kinds = tuple(sorted({pair[0] for step in steps for pair in step[1]}))
        self._followers = {step[0]: step[2] for step in steps}
        self._counts = {(step[0], pair[0]): pair[1] for step in steps for pair in step[1]}

    def __eq__(self, other):
        return isinstance(other, Program) and self.steps == other.steps

    def __contains__(self, x):
        return x in self.names

    def following(self, name):
        """The names of the steps that follow this one, ascending."""
        if name not in self.names:
            raise NoStep(name)
        return self._followers[name]

    def many(self, name, kind):
        """How many happenings of the kind the step has."""
        if name not in self.names:
            raise NoStep(name)
        if kind not in self.kinds:
            raise NoKind(kind)
        return self._counts.get((name, kind), 0)

    def is_run(self, value):
        """Whether the value is a run of the program, whole or not."""
        if not isinstance(value, tuple) or len(value) == 0:
            return False
        allowed = self.names[:1]
        for name in value:
            if name not in allowed:
                return False
            allowed = self._followers[name]
        return True

    def is_whole(self, value):
        """Whether the value is a run whose last step nothing follows."""
        return self.is_run(value) and len(self._followers[value[-1]]) == 0

    def runs(self, length):
        """Yield all runs of this length, ascending."""
        if not is_integer_within(length, 1, 40):
            raise BadLength(length)
        # Without this look ahead, beginnings that end too soon could keep the next run waiting for long.
        lasting = _lasting(self.steps, length - 1)
        begun = [self.names[:1]]
        while begun:
            run = begun.pop()
            left = length - len(run)
            if left == 0:
                yield run
            elif run[-1] in lasting[left]:
                # The least one has to lie on top, to be taken up next.
                for name in reversed(self._followers[run[-1]]):
                    begun.append(run + (name,))


def check_run(program, run):
    """Raise BadRun for any value that is no run of the program."""
    if not program.is_run(run):
        raise BadRun(run)

"""Questions: weights of kinds and of steps, and the worth that they give to a run."""

from fitruns.errors import BadCount, BadQuestion, BadRange
from fitruns.forms import is_ascending, is_integer, is_integer_from, is_name, is_row
from fitruns.programs import check_run


def _is_item(value):
    if not is_row(value, 3) or value[0] not in ("kind", "step"):
        return False
    return is_name(value[1]) and is_integer(value[2]) and value[2] != 0


def is_question(value):
    """Whether any value is a question."""
    if not isinstance(value, tuple) or not all([_is_item(part) for part in value]):
        return False
    # Without the weights: the same sort and name must not come twice with two weights.
    return is_ascending([(sort, name) for sort, name, _ in value])


def _worth_of_step(step, weights):
    name, happenings, _ = step
    counted = [many * weights.get(("kind", kind), 0) for kind, many in happenings]
    return weights.get(("step", name), 0) + sum(counted)


def worths_of_steps(program, question):
    """A dict that gives each name of a step what one visit to it adds."""
    weights = {(sort, name): weight for sort, name, weight in question}
    return {step[0]: _worth_of_step(step, weights) for step in program.steps}


def check_question(question):
    """Raise BadQuestion for any value that is no question."""
    if not is_question(question):
        raise BadQuestion(question)


def check_most(most):
    """Raise BadCount for any value that cannot be the most by which worths may differ."""
    if not is_integer_from(most, 0):
        raise BadCount(most)


def check_range(since, until):
    """Raise BadRange for any values that are no places from which and up to which to add up."""
    if not is_integer_from(since, 0):
        raise BadRange(since)
    if until is not None and not is_integer_from(until, since):
        raise BadRange(until)


def worth(program, question, run, *, since=0, until=None):
    """What the steps of the run at the places from since up to until are worth, added up."""
    check_question(question)
    check_run(program, run)
    check_range(since, until)
    end = len(run) if until is None else until
    worths = worths_of_steps(program, question)
    return sum([worths[name] for name in run[since:end]])

"""Labs: cases of several runs of a program, questions that are watched, and deeds that can be taken back."""

from fitruns.cases import (
    check_even, check_fits, check_strand, closed_case, is_closed, new_case, sheet_of, stands, with_reading, with_turn,
    without_reading,
)
from fitruns.counters import check_counters
from fitruns.errors import (
    BadName, BadPlan, BadRewriting, Closed, NoCase, NothingToUndo, NoWatch, Taken, Unfaithful,
)
from fitruns.forms import is_name
from fitruns.questions import check_most, check_question
from fitruns.records import check_plan
from fitruns.rewriting import Rewriting
from fitruns.totals import bounds


class Scene:
    """What a lab holds at one time: a program, a dict of cases, and a dict of watches (question, most)."""

    def __init__(self, program, cases, watches):
        self.program = program
        self.by_case = cases
        self.by_watch = watches


class Trial:
    """What a trial of a lab is led with: a lab of its own, equal to the lab as it is when the trial begins."""

    def __init__(self, lab):
        self._lab = lab

    def __enter__(self):
        return self._lab.twin()

    def __exit__(self, kind, value, trace):
        return False


def check_new_name(name, taken):
    """Raise BadName for any value that is no name, Taken for a name that is one of those in use."""
    if not is_name(name):
        raise BadName(name)
    if name in taken:
        raise Taken(name)


def _with_entry(table, name, entry):
    """A dict like this one with another entry."""
    other = {key: table[key] for key in table}
    other[name] = entry
    return other


def _without_entry(table, name):
    """A dict like this one without an entry."""
    return {key: table[key] for key in table if key != name}


def _check_plans(counters, plans):
    if not isinstance(plans, tuple) or not 1 <= len(plans) <= 2:
        raise BadPlan(plans)
    for plan in plans:
        check_plan(counters, plan)


def _bounds_in(counters, scene, watch, case):
    """What the watch tells of the case, None if one of both is not there or the case does not stand."""
    if watch not in scene.by_watch or case not in scene.by_case or not stands(scene.by_case[case]):
        return None
    return bounds(scene.program, counters, sheet_of(scene.by_case[case]), scene.by_watch[watch][0])


def _is_settled(scene, watch, told):
    """Whether a case stands with bounds that differ by no more than the watch asks for."""
    return told is not None and told[1] - told[0] <= scene.by_watch[watch][1]


def _has_changed(earlier, now, watch, case):
    # With the program all cases go, so that it need not be compared.
    return earlier.by_case.get(case) != now.by_case.get(case) or earlier.by_watch.get(watch) != now.by_watch.get(watch)


def _names_in(one, other):
    return sorted({name for table in (one, other) for name in table})


def _news_between(counters, earlier, now):
    """The news for going from one scene to another one."""
    news = []
    for watch in _names_in(earlier.by_watch, now.by_watch):
        for case in _names_in(earlier.by_case, now.by_case):
            if _has_changed(earlier, now, watch, case):
                ahead, behind = [_bounds_in(counters, scene, watch, case) for scene in (earlier, now)]
                if _is_settled(earlier, watch, ahead) != _is_settled(now, watch, behind):
                    news.append((watch, case, ahead, behind))
    return tuple(news)


class Lab:
    """A lab over a program and counters."""

    def __init__(self, program, counters):
        check_counters(counters)
        self.program = program
        self.counters = counters
        self.cases = ()
        self.watches = ()
        self.news = ()
        self.deeds = 0
        self._scene = Scene(program, {}, {})
        self._past = []

    def __eq__(self, other):
        if not isinstance(other, Lab) or self.program != other.program or self.counters != other.counters:
            return False
        return self._scene.by_case == other._scene.by_case and self.watches == other.watches

    def hold(self, scene):
        """Hold this from now on, whatever was ahead."""
        self._scene = scene
        self.program = scene.program
        self.cases = tuple(sorted(list(scene.by_case)))
        watches = [(name, question, most) for name, (question, most) in scene.by_watch.items()]
        self.watches = tuple(sorted(watches))

    def twin(self):
        """An equal lab, without deeds and news."""
        lab = Lab(self.program, self.counters)
        # Scenes are never changed, only left for others: both labs can hold the same one.
        lab.hold(self._scene)
        return lab

    def held(self, case):
        """The case of this name, as cases.py tells what a case is."""
        if not is_name(case) or case not in self._scene.by_case:
            raise NoCase(case)
        return self._scene.by_case[case]

    def _held_open(self, case):
        held = self.held(case)
        if is_closed(held):
            raise Closed(case)
        return held

    def _held_with(self, case, strand):
        held = self.held(case)
        check_strand(held, strand)
        return held

    def _turn(self, scene):
        self.news = _news_between(self.counters, self._scene, scene)
        self.deeds = len(self._past)
        self.hold(scene)

    def _do(self, word, scene):
        self._past.append((word, self._scene))
        self._turn(scene)

    def _do_with_cases(self, word, cases):
        self._do(word, Scene(self.program, cases, self._scene.by_watch))

    def _do_with_case(self, word, name, case):
        self._do_with_cases(word, _with_entry(self._scene.by_case, name, case))

    def _do_with_watches(self, word, watches):
        self._do(word, Scene(self.program, self._scene.by_case, watches))

    def begin(self, case, plans):
        """Begin a new case with one or two plans."""
        check_new_name(case, self.cases)
        _check_plans(self.counters, plans)
        self._do_with_case("begin", case, new_case(plans))

    def hear(self, case, strand, counts, *, length=None):
        """Take down the counts of the next turn of a strand, which may be cut short to some length."""
        held = self._held_open(case)
        check_strand(held, strand)
        longer = with_turn(self.counters, held, strand, counts, length)
        check_fits(self.program, self.counters, longer)
        self._do_with_case("hear", case, longer)

    def close(self, case):
        """The run of the case has ended with its last tick."""
        held = self._held_open(case)
        check_even(held)
        ended = closed_case(held)
        check_fits(self.program, self.counters, ended)
        self._do_with_case("close", case, ended)

    def doubt(self, case, strand, turn, counter):
        """Leave a reading out."""
        held = self._held_with(case, strand)
        self._do_with_case("doubt", case, without_reading(held, strand, turn, counter))

    def trust(self, case, strand, turn, counter):
        """Let a reading count again that was left out."""
        held = self._held_with(case, strand)
        fuller = with_reading(held, strand, turn, counter)
        check_fits(self.program, self.counters, fuller)
        self._do_with_case("trust", case, fuller)

    def drop(self, case):
        """Let a case go."""
        self.held(case)
        self._do_with_cases("drop", _without_entry(self._scene.by_case, case))

    def watch(self, name, question, most):
        """Watch for cases of which a question is known but for this much."""
        check_new_name(name, self._scene.by_watch)
        check_question(question)
        check_most(most)
        self._do_with_watches("watch", _with_entry(self._scene.by_watch, name, (question, most)))

    def unwatch(self, name):
        """Let a watch go."""
        if not is_name(name) or name not in self._scene.by_watch:
            raise NoWatch(name)
        self._do_with_watches("unwatch", _without_entry(self._scene.by_watch, name))

    def turn_to(self, rewriting):
        """Go over to the newer program of a rewriting of the lab's program; all cases go."""
        if not isinstance(rewriting, Rewriting) or rewriting.elder != self.program:
            raise BadRewriting(rewriting)
        fault = rewriting.fault()
        if fault is not None:
            raise Unfaithful(fault)
        watches = {name: (rewriting.led(question), most) for name, question, most in self.watches}
        self._do("turn_to", Scene(rewriting.newer, {}, watches))

    def sheet(self, case):
        """The sheet of a case that stands."""
        held = self.held(case)
        check_even(held)
        return sheet_of(held)

    def told(self, case, question, *, since=0, until=None):
        """The least and the greatest worth of the runs that fit a case."""
        return bounds(self.program, self.counters, self.sheet(case), question, since=since, until=until)

    def undo(self):
        """Take the last deed back that was not taken back; returns its word."""
        if len(self._past) == 0:
            raise NothingToUndo()
        word, scene = self._past.pop()
        self._turn(scene)
        return word

    def trial(self):
        """What stands in `with lab.trial() as other`: other is a lab to try things with."""
        return Trial(self)

    def tried(self, look):
        """What the function look returns of a lab to try things with."""
        return look(self.twin())

"""What the document says in sections 14 and 15, word for word: rewritings by listing runs, labs by replaying deeds.

Nothing here is taken from the package: programs are tuples of steps. An error is told as (its name, what it holds).
"""

from tests import plain
from tests.support import is_int, is_name
from tests.test_questions import judged_question


# Section 14

def image(newer, images, run):
    names = [step[0] for step in newer]
    return tuple(part for name in run for part in images[names.index(name)])


def is_images(elder, newer, value):
    names = [step[0] for step in elder]
    if type(value) is not tuple or len(value) != len(newer):
        return False
    for part in value:
        if type(part) is not tuple or len(part) > 4 or not all(type(name) is str and name in names for name in part):
            return False
    return True


def is_right(elder, newer, images, run):
    told = image(newer, images, run)
    if plain.is_whole(newer, run):
        return told != () and plain.is_run(elder, told) and plain.is_whole(elder, told)
    return told == () or plain.is_run(elder, told)


def fault(elder, newer, images, longest):
    """The shortest and least run whose image is not right, None if there is none of up to so many steps."""
    for length in range(1, longest + 1):
        for run in plain.runs_of(newer, length):
            if not is_right(elder, newer, images, run):
                return run
    return None


def last_behind(behind, told):
    return told[-1] if told else behind


def goes_on(elder, behind, told):
    if not told:
        return True
    if behind is None:
        return plain.is_run(elder, told)
    return all(later in plain.step_of(elder, name)[2] for name, later in zip((behind,) + told, told))


def is_faithful(elder, newer, images, value):
    if type(value) is not tuple:
        return False
    names, elders = [step[0] for step in newer], [step[0] for step in elder]
    for pair in value:
        if type(pair) is not tuple or len(pair) != 2 or type(pair[0]) is not str or pair[0] not in names:
            return False
        if pair[1] is not None and (type(pair[1]) is not str or pair[1] not in elders):
            return False
    if len(set(value)) != len(value):
        return False
    first = images[0]
    if not goes_on(elder, None, first) or (names[0], last_behind(None, first)) not in value:
        return False
    for name, behind in value:
        following = plain.step_of(newer, name)[2]
        if not following and (behind is None or plain.step_of(elder, behind)[2]):
            return False
        for later in following:
            told = images[names.index(later)]
            if not goes_on(elder, behind, told) or (later, last_behind(behind, told)) not in value:
                return False
    return True


def led(elder, newer, images, question):
    items = [("step", step[0], plain.worth(elder, question, part)) for step, part in zip(newer, images)]
    return tuple(sorted(item for item in items if item[2] != 0))


# Section 15

def ticks_of(heard):
    return tuple(sum(turn[0] for turn in strand) for strand in heard)


def stands(case):
    ticks = ticks_of(case["heard"])
    return min(ticks) > 0 and len(set(ticks)) == 1


def sheet_of(case):
    records = []
    for strand, heard in enumerate(case["heard"]):
        record = []
        for turn, (length, setting, counts) in enumerate(heard):
            gone = [(strand, turn, counter) in case["left"] for counter in range(len(setting))]
            record.append((length, tuple(None if off else kind for kind, off in zip(setting, gone)),
                           tuple(None if off else count for count, off in zip(counts, gone))))
        records.append(tuple(record))
    return (tuple(records), case["closed"])


class Model:
    """A lab that knows only the list of its deeds, and finds out all else by doing them once more."""

    def __init__(self, steps, counters):
        self.begun = (steps, counters)
        self.deeds = []
        self.news = ()

    def scene(self, deeds=None):
        """(steps, cases, watches) behind these deeds."""
        steps, cases, watches = self.begun[0], {}, {}
        for word, args in self.deeds if deeds is None else deeds:
            steps, cases, watches = self.behind(steps, cases, watches, word, args)
        return steps, cases, watches

    def behind(self, steps, cases, watches, word, args):
        cases = {name: {"plans": case["plans"], "heard": [list(strand) for strand in case["heard"]], "left": set(case["left"]), "closed": case["closed"]}
                 for name, case in cases.items()}
        watches = dict(watches)
        if word == "begin":
            cases[args[0]] = {"plans": args[1], "heard": [[] for _ in args[1]], "left": set(), "closed": False}
        elif word == "hear":
            name, strand, counts, length = args
            most, setting = self.next_turn(cases[name], strand)
            cases[name]["heard"][strand].append((most if length is None else length, setting, counts))
        elif word == "close":
            cases[args[0]]["closed"] = True
        elif word == "doubt":
            cases[args[0]]["left"].add(args[1:])
        elif word == "trust":
            cases[args[0]]["left"].remove(args[1:])
        elif word == "drop":
            del cases[args[0]]
        elif word == "watch":
            watches[args[0]] = args[1:]
        elif word == "unwatch":
            del watches[args[0]]
        elif word == "turn_to":
            elder, newer, images = args
            steps, cases = newer, {}
            watches = {name: (led(elder, newer, images, question), most) for name, (question, most) in watches.items()}
        return steps, cases, watches

    def next_turn(self, case, strand):
        plan = case["plans"][strand]
        return plan[len(case["heard"][strand]) % len(plan)]

    def stuck(self, steps, case):
        """The least number of ticks by which each run has broken, None if the case does not stand or a run fits."""
        if not stands(case):
            return None
        sheet = sheet_of(case)
        for t in range(1, ticks_of(case["heard"])[0] + 1):
            if not plain.unbroken_runs(steps, self.begun[1], sheet, t):
                return t
        return None

    def wrong(self, word, args):
        """The error that a deed raises, None if it is done."""
        steps, cases, watches = self.scene()
        return getattr(self, "wrong_" + word)(steps, cases, watches, *args)

    def known(self, cases, name):
        return type(name) is str and name in cases

    def wrong_begin(self, steps, cases, watches, name, plans):
        if not is_name(name):
            return ("BadName", name)
        if name in cases:
            return ("Taken", name)
        if type(plans) is not tuple or len(plans) not in (1, 2):
            return ("BadPlan", plans)
        return next((("BadPlan", plan) for plan in plans if not plain.is_plan(self.begun[1], plan)), None)

    def wrong_strand(self, cases, name, strand):
        if not is_int(strand) or not 0 <= strand < len(cases[name]["plans"]):
            return ("NoStrand", strand)
        return None

    def wrong_hear(self, steps, cases, watches, name, strand, counts, length):
        if not self.known(cases, name):
            return ("NoCase", name)
        case = cases[name]
        if case["closed"]:
            return ("Closed", name)
        if self.wrong_strand(cases, name, strand):
            return self.wrong_strand(cases, name, strand)
        most, setting = self.next_turn(case, strand)
        if type(counts) is not tuple or len(counts) != len(setting):
            return ("BadCounts", counts)
        if not all(plain.is_count(kind, size, count) for kind, (_, size), count in zip(setting, self.begun[1], counts)):
            return ("BadCounts", counts)
        if length is not None and not (is_int(length) and 1 <= length <= most):
            return ("BadLength", length)
        heard, plan = case["heard"][strand], case["plans"][strand]
        if any(turn[0] < plan[number % len(plan)][0] for number, turn in enumerate(heard)):
            return ("Over", strand)
        ticks = ticks_of(case["heard"])[strand] + (most if length is None else length)
        if ticks > 40:
            return ("TooLong", ticks)
        return self.wrong_behind(steps, cases, watches, "hear", (name, strand, counts, length))

    def wrong_behind(self, steps, cases, watches, word, args):
        _, later, _ = self.behind(steps, cases, watches, word, args)
        t = self.stuck(steps, later[args[0]])
        return None if t is None else ("Stuck", t)

    def wrong_close(self, steps, cases, watches, name):
        if not self.known(cases, name):
            return ("NoCase", name)
        if cases[name]["closed"]:
            return ("Closed", name)
        if not stands(cases[name]):
            return ("Uneven", ticks_of(cases[name]["heard"]))
        return self.wrong_behind(steps, cases, watches, "close", (name,))

    def is_reading(self, case, strand, turn, counter):
        heard = case["heard"][strand]
        if not is_int(turn) or not is_int(counter) or not 0 <= turn < len(heard) or not 0 <= counter < len(self.begun[1]):
            return False
        return heard[turn][1][counter] is not None

    def wrong_doubt(self, steps, cases, watches, name, strand, turn, counter):
        if not self.known(cases, name):
            return ("NoCase", name)
        if self.wrong_strand(cases, name, strand):
            return self.wrong_strand(cases, name, strand)
        if not self.is_reading(cases[name], strand, turn, counter) or (strand, turn, counter) in cases[name]["left"]:
            return ("NoReading", (turn, counter))
        return None

    def wrong_trust(self, steps, cases, watches, name, strand, turn, counter):
        if not self.known(cases, name):
            return ("NoCase", name)
        if self.wrong_strand(cases, name, strand):
            return self.wrong_strand(cases, name, strand)
        if not self.is_reading(cases[name], strand, turn, counter) or (strand, turn, counter) not in cases[name]["left"]:
            return ("NoReading", (turn, counter))
        return self.wrong_behind(steps, cases, watches, "trust", (name, strand, turn, counter))

    def wrong_drop(self, steps, cases, watches, name):
        return None if self.known(cases, name) else ("NoCase", name)

    def wrong_watch(self, steps, cases, watches, name, question, most):
        if not is_name(name):
            return ("BadName", name)
        if name in watches:
            return ("Taken", name)
        if not judged_question(question):
            return ("BadQuestion", question)
        return None if is_int(most) and most >= 0 else ("BadCount", most)

    def wrong_unwatch(self, steps, cases, watches, name):
        return None if self.known(watches, name) else ("NoWatch", name)

    def wrong_turn_to(self, steps, cases, watches, elder, newer, images):
        if elder != steps:
            return ("BadRewriting", None)
        run = fault(elder, newer, images, 6)
        return None if run is None else ("Unfaithful", run)

    def told(self, scene, watch, name):
        steps, cases, watches = scene
        if watch not in watches or name not in cases or not stands(cases[name]):
            return None
        worths = [plain.worth(steps, watches[watch][0], run) for run in plain.fitting_runs(steps, self.begun[1], sheet_of(cases[name]))]
        return (min(worths), max(worths))

    def turned(self, earlier, now):
        news = []
        for watch in sorted(set(earlier[2]) | set(now[2])):
            for name in sorted(set(earlier[1]) | set(now[1])):
                told = [self.told(scene, watch, name) for scene in (earlier, now)]
                held = [pair is not None and pair[1] - pair[0] <= scene[2][watch][1] for pair, scene in zip(told, (earlier, now))]
                if held[0] != held[1]:
                    news.append((watch, name, told[0], told[1]))
        self.news = tuple(news)

    def do(self, word, args):
        """Do a deed; returns the error that it raises, None if it is done."""
        error = self.wrong(word, args)
        if error is None:
            earlier = self.scene()
            self.deeds.append((word, args))
            self.turned(earlier, self.scene())
        return error

    def undo(self):
        earlier = self.scene()
        word, _ = self.deeds.pop()
        self.turned(earlier, self.scene())
        return word

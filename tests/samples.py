"""Programs, counters and sheets that several tests take, and some that are drawn by chance."""

from tests import plain

DIAMOND = (
    ("a", (("x", 1),), ("b", "c")),
    ("b", (("x", 2), ("y", 1)), ("d",)),
    ("c", (("y", 3),), ("d",)),
    ("d", (), ()),
)
# Names that are not in order, a step that follows itself, ends that come sooner or later, one that nothing leads to.
LOOPS = (
    ("m", (("x", 1), ("z", 2)), ("a", "m", "z")),
    ("z", (), ("b",)),
    ("a", (("y", 2),), ("m", "z")),
    ("lost", (("x", 5),), ("b", "lost", "m")),
    ("b", (("x", 4), ("y", 1)), ()),
)
# All ways go on for ever, none is whole.
FULL = (
    ("a", (("x", 1),), ("a", "b", "c")),
    ("b", (("y", 1),), ("a", "b", "c")),
    ("c", (), ("a", "b", "c")),
)
# x comes or not, round by round, until the end.
ROUNDS = (
    ("a", (), ("b", "c", "d")),
    ("b", (("x", 1),), ("a",)),
    ("c", (("y", 5), ("z", 3)), ("a",)),
    ("d", (), ()),
)
RING = (("c", (("x", 3),), ("a",)), ("a", (("k", 1),), ("b",)), ("b", (("k", 3), ("y", 2)), ("c",)))
STAYS = (("on", (("tick", 1),), ("on",)),)
ALONE = (("only", (("x", 2),), ()),)
PROGRAMS = (DIAMOND, LOOPS, FULL, ROUNDS, RING, STAYS, ALONE)

# One to three counters; some can be on the same kind, some on kinds that no step has.
COUNTERS = (
    ((("x",), None),),
    ((("x", "y"), None), (("y",), 4)),
    ((("k", "x", "y"), 2), (("none", "tick", "x"), 999), (("x", "z"), 3)),
    ((("tick", "x"), 5), (("k", "y", "z"), None)),
    ((("x", "y", "z"), None), (("x", "y", "z"), None), (("none", "x"), 2)),
)

# Two counters, and sheets of theirs of three ticks: nothing counted, one way of DIAMOND that fits, none that fits.
TWO = ((("x", "y"), None), (("y",), 4))
FREE = ((((3, (None, None), (None, None)),),), True)
SOLE = ((((3, ("x", None), (3, None)),),), True)
FIVE = ((((3, ("x", None), (5, None)),),), True)
# One counter.
TICK = ((("tick",), None),)
NONE = ((("x",), None),)


def free_sheet(length, records=1, counters=1, ended=False):
    """A sheet of so many ticks in which nothing was counted."""
    nothing = (None,) * counters
    turns = [(8, nothing, nothing)] * (length // 8)
    if length - 8 * len(turns) > 0:
        turns.append((length - 8 * len(turns), nothing, nothing))
    return ((tuple(turns),) * records, ended)


def some_plan(random, counters):
    """A plan of some turns, drawn by chance."""
    settings = plain.all_settings(counters)
    return tuple((random.choice((1, 1, 2, 2, 3, 4, 8)), random.choice(settings)) for _ in range(random.choice((1, 1, 2, 3, 4))))


def with_other_count(random, counters, record):
    """The record with one count otherwise; the record itself if no counter was on a kind."""
    places = [(at, counter) for at, turn in enumerate(record) for counter, count in enumerate(turn[2]) if count is not None]
    if not places:
        return record
    at, counter = random.choice(places)
    length, setting, counts = record[at]
    size, count = counters[counter][1], counts[counter]
    others = [other for other in (count - 1, count + 1, count + 2, 0) if other != count and plain.is_count("x", size, other)]
    changed = counts[:counter] + (random.choice(others),) + counts[counter + 1:]
    return record[:at] + ((length, setting, changed),) + record[at + 1:]


def some_sheets(random, many, longest=6):
    """Yield (steps, counters, sheet), drawn by chance: sheets of one or two records of a run, some with a wrong count."""
    for number in range(many):
        steps = PROGRAMS[number % len(PROGRAMS)]
        counters = random.choice(COUNTERS)
        lengths = [length for length in range(1, longest + 1) if plain.runs_of(steps, length)]
        length = random.choice(lengths + lengths[-2:] * 2)
        run = random.choice(plain.runs_of(steps, length))
        plans = [some_plan(random, counters) for _ in range(random.choice((1, 1, 2)))]
        records = [plain.record_of(steps, counters, plan, run) for plan in plans]
        if random.random() < 0.4:
            at = random.randrange(len(records))
            records[at] = with_other_count(random, counters, records[at])
        ended = random.random() < (0.6 if plain.is_whole(steps, run) else 0.2)
        yield steps, counters, (tuple(records), ended)


# Programs of at most five steps for runs of all lengths: with and without rings, some without a whole run.
TWO_WAYS = (("in", (), ("cold", "hot")), ("hot", (("miss", 3),), ("out",)), ("cold", (("hit", 2),), ("out",)), ("out", (), ()))
# Three ways of different lengths, and one step that nothing leads to.
FORK = (
    ("s", (("x", 1),), ("p", "q", "r")),
    ("p", (("x", 2), ("y", 1)), ("q", "t")),
    ("q", (("y", 1),), ("t",)),
    ("r", (("x", 1), ("z", 2)), ("t",)),
    ("t", (("z", 1),), ()),
    ("gone", (("x", 5),), ("gone", "t")),
)
# One ring of one step, left at any time; what it adds is also counted ahead of it.
WAITS = (("a", (("x", 2),), ("b", "c")), ("b", (("x", 1), ("y", 1)), ("b", "c")), ("c", (("y", 2),), ("d",)), ("d", (), ()))
# A ring from which no way leads to an end, beside one that does.
LOST = (("a", (), ("b", "e")), ("b", (("x", 1),), ("b", "c")), ("c", (("x", 2), ("y", 1)), ("b",)), ("e", (("y", 1),), ("e", "f")), ("f", (), ()))
APART = (DIAMOND, LOOPS, FULL, ROUNDS, RING, STAYS, ALONE, TWO_WAYS, FORK, WAITS, LOST)


def some_program(random):
    """Steps of a program of two to four steps, drawn by chance; some step mostly has nothing behind it."""
    names = "abcd"[:random.choice((2, 3, 3, 4))]
    steps = []
    for name in names:
        kinds = sorted(random.sample("xyz", random.choice((0, 1, 1, 2))))
        many = 0 if name == names[-1] and random.random() < 0.9 else random.choice((1, 1, 2, 2, 3))
        following = sorted(random.sample(names, min(many, len(names))))
        steps.append((name, tuple((kind, random.choice((1, 1, 2, 3))) for kind in kinds), tuple(following)))
    return tuple(steps)


def ringed_program(random):
    """Steps of a program of four or five steps with many rings and one end, drawn by chance."""
    names = "abcde"[:random.choice((4, 4, 5))]
    steps = []
    for name in names[:-1]:
        kinds = sorted(random.sample("xy", random.choice((0, 0, 1, 2))))
        following = sorted(random.sample(names, random.choice((1, 2, 2, 3))))
        steps.append((name, tuple((kind, random.choice((1, 2))) for kind in kinds), tuple(following)))
    return tuple(steps) + ((names[-1], (), ()),)


def short_plan(random, counters, longest=6):
    """A plan of one to three turns, none longer than this, drawn by chance."""
    settings = plain.all_settings(counters)
    lengths = [length for length in (1, 1, 2, 2, 3, 4, 6) if length <= longest]
    return tuple((random.choice(lengths), random.choice(settings)) for _ in range(random.choice((1, 1, 2, 3))))

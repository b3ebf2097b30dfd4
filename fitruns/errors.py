"""The errors of the package: each one keeps what it was created with."""


class FitError(ValueError):
    """What all errors of the package derive from."""


class BadProgram(FitError):
    """The value is no tuple of steps that make a program."""

    def __init__(self, value):
        self.value = value


class NoStep(FitError):
    """The program has no step of this name."""

    def __init__(self, value):
        self.value = value


class NoKind(FitError):
    """No step of the program has happenings of this kind."""

    def __init__(self, value):
        self.value = value


class BadLength(FitError):
    """The value is no length that can stand here."""

    def __init__(self, value):
        self.value = value


class BadQuestion(FitError):
    """The value is no question."""

    def __init__(self, value):
        self.value = value


class BadRun(FitError):
    """The value is no run of the program."""

    def __init__(self, value):
        self.value = value


class BadRange(FitError):
    """The value is no place at which a range can begin or end."""

    def __init__(self, value):
        self.value = value


class BadCounters(FitError):
    """The value is no tuple of counters."""

    def __init__(self, value):
        self.value = value


class BadKinds(FitError):
    """The value is no ascending tuple of kinds."""

    def __init__(self, value):
        self.value = value


class BadPlan(FitError):
    """The value is no plan for these counters."""

    def __init__(self, value):
        self.value = value


class BadSheet(FitError):
    """The value is no sheet of these counters."""

    def __init__(self, value):
        self.value = value


class BadTick(FitError):
    """The value is no tick of the sheet."""

    def __init__(self, value):
        self.value = value


class NoRun(FitError):
    """No run that fits has this index."""

    def __init__(self, value):
        self.value = value


class NoFit(FitError):
    """The run does not fit the sheet."""

    def __init__(self, run):
        self.run = run


class BadLengths(FitError):
    """The value is no tuple of lengths of turns."""

    def __init__(self, value):
        self.value = value


class BadPrices(FitError):
    """The value does not give each kind its price."""

    def __init__(self, value):
        self.value = value


class BadCount(FitError):
    """The value is no integer from 0."""

    def __init__(self, value):
        self.value = value


class TooMany(FitError):
    """There are too many plans, or ways of asking, to judge."""

    def __init__(self, number):
        self.number = number


class BadImages(FitError):
    """The value does not give each step of the newer program its image."""

    def __init__(self, value):
        self.value = value


class BadName(FitError):
    """The value is no name."""

    def __init__(self, value):
        self.value = value


class Taken(FitError):
    """The name is in use already."""

    def __init__(self, name):
        self.name = name


class NoCase(FitError):
    """The lab has no case of this name."""

    def __init__(self, value):
        self.value = value


class Closed(FitError):
    """The case is closed."""

    def __init__(self, name):
        self.name = name


class NoStrand(FitError):
    """The case has no strand of this number."""

    def __init__(self, value):
        self.value = value


class BadCounts(FitError):
    """The value is no counts for the setting of the turn."""

    def __init__(self, value):
        self.value = value


class Over(FitError):
    """The strand can hear nothing more behind a turn that was cut short."""

    def __init__(self, strand):
        self.strand = strand


class TooLong(FitError):
    """The strand would have too many ticks."""

    def __init__(self, ticks):
        self.ticks = ticks


class Stuck(FitError):
    """No run fits: each one has broken by this number of ticks."""

    def __init__(self, t):
        self.t = t


class Uneven(FitError):
    """The strands of the case have not equally many ticks, or have none."""

    def __init__(self, ticks):
        self.ticks = ticks


class NoReading(FitError):
    """There is no such reading to leave out, or to trust again."""

    def __init__(self, value):
        self.value = value


class NoWatch(FitError):
    """The lab has no watch of this name."""

    def __init__(self, value):
        self.value = value


class BadRewriting(FitError):
    """The value is no rewriting of the program of the lab."""

    def __init__(self, value):
        self.value = value


class Unfaithful(FitError):
    """The image of this run of the newer program is not right."""

    def __init__(self, run):
        self.run = run


class NothingToUndo(FitError):
    """No deed is in effect that could be taken back."""


class BadText(FitError):
    """This line of the text has not the form that it should have, or is missing."""

    def __init__(self, line):
        self.line = line


class BadLine(FitError):
    """The line is none that a desk can answer."""

    def __init__(self, line):
        self.line = line

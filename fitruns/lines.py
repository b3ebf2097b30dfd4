"""Lines of texts: what each kind of line tells, and a reader that goes through them one by one."""

from fitruns.errors import BadText
from fitruns.forms import is_name
from fitruns.words import counts_told, fixed_told, is_number, question_told, split_at, turn_told


def _happening_told(word):
    kind, _, many = word.partition("*")
    return (kind, int(many)) if is_name(kind) and is_number(many) else None


def step_line(words):
    """(name, happenings, following) of step NAME KIND*MANY .. > NAME .."""
    parts = split_at(words, ">")
    if len(parts) != 2 or parts[0][:1] != ["step"] or not all([is_name(name) for name in parts[0][1:2] + parts[1]]):
        return None
    happenings = [_happening_told(word) for word in parts[0][2:]]
    if len(parts[0]) < 2 or None in happenings:
        return None
    return (parts[0][1], tuple(happenings), tuple(parts[1]))


def counter_line(words):
    """(kinds, size) of counter KIND .., perhaps with / SIZE behind it."""
    parts = split_at(words[1:], "/")
    sizes = [fixed_told(part, ("number",)) for part in parts[1:]]
    if words[0] != "counter" or len(parts[0]) == 0 or len(sizes) > 1 or None in sizes:
        return None
    if not all([is_name(kind) for kind in parts[0]]):
        return None
    return (tuple(parts[0]), sizes[0][0] if sizes else None)


def turn_line(words):
    """(length, setting) of turn LENGTH KIND .."""
    return turn_told(words[1:]) if words[0] == "turn" else None


def heard_line(words):
    """(length, setting, counts) of heard LENGTH KIND .. = COUNT .."""
    parts = split_at(words[1:], "=")
    if words[0] != "heard" or len(parts) != 2:
        return None
    turn, counts = turn_told(parts[0]), counts_told(parts[1])
    return None if turn is None or counts is None else turn + (counts,)


def left_line(words):
    """(turn, counter) of left TURN COUNTER."""
    return fixed_told(words[1:], ("number", "number")) if words[0] == "left" else None


def strand_line(words):
    """True of strand."""
    return True if words == ["strand"] else None


def case_line(words):
    """(name, closed) of case NAME or closed NAME."""
    told = fixed_told(words[1:], ("name",)) if words[0] in ("case", "closed") else None
    return None if told is None else told + (words[0] == "closed",)


def watch_line(words):
    """(name, most, question) of watch NAME MOST QUESTION."""
    told, question = fixed_told(words[1:3], ("name", "number")), question_told(words[3:])
    return None if words[0] != "watch" or told is None or question is None else told + (question,)


class Lines:
    """The lines of a text, gone through from the first one on; BadText tells of the first one that cannot stand."""

    def __init__(self, text):
        if not isinstance(text, str):
            raise BadText(0)
        self._lines = text.split("\n") if len(text) > 0 else []
        self._taken = 0

    def are_over(self):
        """Whether no line is left."""
        return self._taken == len(self._lines)

    def first_word(self):
        """The first word of the next line, empty if no line is left."""
        return "" if self.are_over() else self._lines[self._taken].split(" ")[0]

    def take(self, form):
        """What the next line tells by a function that gives None for what has not its form."""
        told = None if self.are_over() else form(self._lines[self._taken].split(" "))
        if told is None:
            raise BadText(self._taken)
        self._taken += 1
        return told

    def take_some(self, word, form):
        """A list of what the next lines tell that begin with this word."""
        told = []
        while self.first_word() == word:
            told.append(self.take(form))
        return told

    def take_more(self, word, form):
        """Like take_some, but of one line or more."""
        first = self.take(form)
        return [first] + self.take_some(word, form)

    def refuse(self):
        """Tell that the line that was taken last cannot stand there."""
        raise BadText(self._taken - 1)

    def finish(self):
        """Tell of a line behind what was taken that it cannot stand there."""
        if not self.are_over():
            raise BadText(self._taken)

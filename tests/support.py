"""What the tests share: values of every kind, values with one part otherwise, and the check of errors."""

import unittest

from fitruns.errors import FitError


def nested(depth, wrap, core):
    value = core
    for _ in range(depth):
        value = wrap(value)
    return value


def in_turns(depth, core):
    """The core in tuples, lists and dicts by turns, so many deep."""
    wraps = (lambda value: (value,), lambda value: [value], lambda value: {"a": value})
    value = core
    for place in range(depth):
        value = wraps[place % 3](value)
    return value


DEEP = [
    nested(40, lambda value: (value,), ()),
    nested(40, lambda value: (value,), "a"),
    nested(40, lambda value: ("a", (), value), ()),
    nested(40, lambda value: [value], []),
    nested(40, lambda value: {"a": value}, None),
    in_turns(40, 1),
]

PLAIN = [
    None, True, False,
    0, 1, 2, 3, 4, 5, 6, 7, 39, 40, 41, -1, -2, 999999999999999999, -999999999999999999,
    "", "a", "b", "c", "d", "x", "y", "z", "kind", "step", "abcdefgh", "abcdefghi", "zzzzzzzzz",
    "A", "aB", "a1", "1", "a b", " a", "a ", "a\n", "\n", "a_", "a-b", "a`", "a{", "@", "\u00e9", "a\u00df",
    "\uff41", "\u0430", "None",
]

PILED = [
    (), ((),), ("a",), ("a", "b"), ("b", "a"), ("a", "a"), (1,), (None,), ("x", 1), (("x", 1),), ("kind", "x", 1),
    ("a", (), ()), (("a", (), ()),), (0, 0), (True, False), (("a",),), (("kind", "x", 1),),
    [], ["a"], ["a", "b"], [1], [[]], [("a", (), ())], [("x", 1)], [("kind", "x", 1)],
    {}, {"a": 1}, {"x": 1}, {1: "a"}, {"a": ()}, {"a": []}, {("a",): None},
]

ANY_VALUES = PLAIN + PILED + DEEP


def is_int(value):
    return type(value) is int


def is_name(value):
    letters = "abcdefghijklmnopqrstuvwxyz"
    return type(value) is str and len(value) in range(1, 9) and set(value) <= set(letters)


def ascends(values):
    return list(values) == sorted(set(values))


def _with_other_part(value, odd):
    for place, part in enumerate(value):
        for other in twists(part, odd):
            yield value[:place] + (other,) + value[place + 1:]


def _with_other_shape(value):
    yield list(value)
    yield value + (None,)
    yield value + ((),)
    yield value[::-1]
    for place in range(len(value)):
        yield value[:place] + value[place + 1:]
        yield value[:place] + (value[place],) + value[place:]
        yield value[:place] + (value[place:],)
        yield value[:place] + value[place + 1:place + 2] + value[place:place + 1] + value[place + 2:]
    for item in value:
        if type(item) is tuple:
            yield value[:0] + tuple(part for other in value for part in (other if other is item else (other,)))


def twists(value, odd=ANY_VALUES):
    """Yield values that are the value but for one part, at any depth; some may be as right as it is."""
    for other in odd:
        yield other
    yield (value,)
    yield [value]
    if type(value) is tuple:
        for other in _with_other_shape(value):
            yield other
        for other in _with_other_part(value, odd):
            yield other
    elif type(value) is str:
        for other in (value.upper(), value + "z", value[:-1], value * 9, list(value), tuple(value)):
            yield other
    elif type(value) is int:
        for other in (value + 1, value - 1, -value, value + 10, bool(value), str(value)):
            yield other


def is_like(one, other):
    """Whether two values are the same, kinds of values included (True is no 1 here)."""
    return repr(one) == repr(other)


class FitTest(unittest.TestCase):
    """A test case that can check how an error is raised."""

    def caught(self, call, *args, **named):
        try:
            call(*args, **named)
        except Exception as error:
            return error
        return None

    def assert_raises_just(self, kind, held, call, *args, word="value", **named):
        """The call raises just this error, alone, with the very value held, and leaves what was passed as it was."""
        self.assertTrue(issubclass(kind, FitError))
        before = repr((held, args, named))
        error = self.caught(call, *args, **named)
        where = f"{getattr(call, '__name__', call)} of {args} {named}"
        self.assertIs(type(error), kind, where)
        self.assertIs(getattr(error, word), held, where)
        self.assertIsNone(error.__cause__, where)
        self.assertIsNone(error.__context__, where)
        self.assertEqual(repr((held, args, named)), before)

    def assert_like(self, one, other, where=None):
        """Equal, and of the same kinds of values throughout."""
        self.assertEqual(one, other, where)
        self.assertTrue(is_like(one, other), where)

"""The plain forms of values, which several files of the package ask about.

Each function here takes any value, unless it says otherwise.
"""


def is_integer(value):
    # To Python a bool is an int; here it is none.
    return isinstance(value, int) and not isinstance(value, bool)


def is_integer_from(value, least):
    return is_integer(value) and value >= least


def is_integer_within(value, least, most):
    return is_integer(value) and least <= value <= most


def is_name(value):
    # Not islower: that also takes letters beyond a to z.
    return isinstance(value, str) and 1 <= len(value) <= 8 and all(["a" <= sign <= "z" for sign in value])


def is_row(value, width):
    return isinstance(value, tuple) and len(value) == width


def is_ascending(items):
    """Whether items that can be compared with one another are sorted, none of them twice."""
    return all([item < later for item, later in zip(items, items[1:])])


def are_names(value):
    """Whether the value is an ascending tuple of names, perhaps of none."""
    return isinstance(value, tuple) and all([is_name(part) for part in value]) and is_ascending(value)

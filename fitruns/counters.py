"""Counters, the settings that they can be put to, and kinds that are too many for them."""

from fitruns.errors import BadCounters, BadKinds
from fitruns.forms import are_names, is_integer_within, is_row


def _is_counter(value):
    if not is_row(value, 2) or not are_names(value[0]) or len(value[0]) == 0:
        return False
    return value[1] is None or is_integer_within(value[1], 2, 999)


def is_counters(value):
    """Whether any value is a tuple of counters."""
    return isinstance(value, tuple) and 1 <= len(value) <= 3 and all([_is_counter(part) for part in value])


def check_counters(counters):
    """Raise BadCounters for any value that is no tuple of counters."""
    if not is_counters(counters):
        raise BadCounters(counters)


def suits(counters, value):
    """Whether any value is a setting of what are counters for sure."""
    if not is_row(value, len(counters)):
        return False
    return all([kind is None or kind in kinds for kind, (kinds, _) in zip(value, counters)])


def is_setting(counters, value):
    """Whether any value is a setting of the counters."""
    check_counters(counters)
    return suits(counters, value)


def _check_kinds(kinds):
    if not are_names(kinds):
        raise BadKinds(kinds)


def rows_over(choices):
    """All tuples with one part of each choice, the first choice changing last."""
    rows = [()]
    for parts in choices:
        rows = [row + (part,) for row in rows for part in parts]
    return rows


def _settings_over(counters, kinds):
    """All settings that put no counter on another kind than these, ascending."""
    return rows_over([[None] + [kind for kind in kinds if kind in able] for able, _ in counters])


def _subsets(kinds):
    subsets = [()]
    for kind in kinds:
        subsets = subsets + [some + (kind,) for some in subsets]
    return subsets


def _is_short(counters, kinds):
    helpful = [able for able, _ in counters if any([kind in able for kind in kinds])]
    return len(kinds) > len(helpful)


def setting_for(counters, kinds):
    """The least setting that has all the kinds, or kinds among them that are too many for the counters."""
    check_counters(counters)
    _check_kinds(kinds)
    # Kinds may be very many; here they are short all together, and what is tried below stays small.
    if len(kinds) > len(counters):
        return ("short", kinds)
    for setting in _settings_over(counters, kinds):
        if all([kind in setting for kind in kinds]):
            return ("setting", setting)
    # By Hall's theorem there is a short set wherever no setting has all the kinds.
    return ("short", [some for some in _subsets(kinds) if _is_short(counters, some)][0])


def shows_short(counters, kinds, value):
    """Whether any value is a short set of the kinds."""
    check_counters(counters)
    _check_kinds(kinds)
    return are_names(value) and all([kind in kinds for kind in value]) and _is_short(counters, value)

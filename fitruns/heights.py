"""Heights: rows (t, state, height) that show that no run gains less than some value on its way through a course.

Ways are an object with a course, and with lists of pairs (state, gain): openings() of the state behind one tick, and
leads(t, state) of what follows a state, as far as they do not break.
"""

from fitruns.forms import is_ascending, is_integer, is_integer_within, is_row


def lowest_heights(ways):
    """Rows of all states that runs come to, the height the least gain on a way there."""
    rows = []
    lowest = {state: gain for state, gain in ways.openings()}
    t = 1
    while len(lowest) > 0:
        rows.extend([(t, state, lowest[state]) for state in sorted(lowest)])
        later = {}
        for state, ahead in lowest.items():
            for follower, gain in ways.leads(t, state):
                later[follower] = min(ahead + gain, later.get(follower, ahead + gain))
        lowest = later
        t += 1
    return rows


def _is_height_row(course, value):
    if not is_row(value, 3) or not is_integer_within(value[0], 1, course.ticks):
        return False
    return course.is_state(value[1]) and is_integer(value[2])


def are_heights(course, value):
    """Whether any value has the form of heights."""
    if not isinstance(value, tuple) or not all([_is_height_row(course, row) for row in value]):
        return False
    # Without the heights: the same t and state must not come twice with two heights.
    return is_ascending([(t, state) for t, state, _ in value])


def _are_low(known, t, pairs, height):
    """Whether all these states behind t ticks have a row, none higher than this height and its gain together."""
    return all([(t, state) in known and known[(t, state)] <= height + gain for state, gain in pairs])


def show_no_less(ways, rows, value):
    """Whether rows that have the form of heights show that each way gains at least the value."""
    ticks = ways.course.ticks
    if any([t == ticks and height < value for t, _, height in rows]):
        return False
    known = {(t, state): height for t, state, height in rows}
    if not _are_low(known, 1, ways.openings(), 0):
        return False
    return all([_are_low(known, t + 1, ways.leads(t, state), height) for t, state, height in rows])

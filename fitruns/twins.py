"""Twins: how much two whole runs that look alike under a plan can differ in worth."""

from fitruns.counters import check_counters
from fitruns.forms import is_integer, is_row
from fitruns.graphs import leading_to, rings_in_order, shortest_way, way_back, within
from fitruns.pairs import Pairs
from fitruns.questions import check_question, worth
from fitruns.records import alike, check_plan


class PairGraph:
    """All pair states that two runs come to, by numbers; the number 0 is the one behind one tick."""

    def __init__(self, pairs):
        self.states = [pairs.beginning()]
        self.edges = []
        numbers = {self.states[0]: 0}
        while len(self.edges) < len(self.states):
            later = pairs.followers(self.states[len(self.edges)])
            for state in later:
                if state not in numbers:
                    numbers[state] = len(self.states)
                    self.states.append(state)
            self.edges.append([numbers[state] for state in later])
        self.gains = [pairs.gain(state) for state in self.states]
        self.ends = [number for number, state in enumerate(self.states) if pairs.is_end(state)]
        self.live = leading_to(self.edges, self.ends)

    def live_followers(self):
        """The followers from which an end can be reached, of the states from which one can be reached."""
        return within(self.edges, [True if alive else None for alive in self.live])

    def runs_along(self, way):
        """The two runs that go through these states."""
        pairs = [self.states[node] for node in way]
        return tuple([one for _, one, _, _ in pairs]), tuple([other for _, _, other, _ in pairs])


def _tree(followers, gains, root):
    """Two dicts for all that the root leads to: the gain of some way from the root, and the node ahead on this way."""
    reached, came = {root: 0}, {root: None}
    waiting = [root]
    while waiting:
        node = waiting.pop()
        for later in followers[node]:
            if later not in came:
                reached[later] = reached[node] + gains[later]
                came[later] = node
                waiting.append(later)
    return reached, came


def _uneven_step(inside, gains, reached):
    """A node and a follower that is reached from the root with two different gains, None without one."""
    for node in reached:
        for later in inside[node]:
            if reached[node] + gains[later] != reached[later]:
                return node, later
    return None


def _gain_along(gains, way):
    """What is gained on a way behind its first node."""
    return sum([gains[node] for node in way[1:]])


def _growing_ring(inside, gains, came, root, step):
    """A way from the root back to it that gains something, or loses something, by a step that is uneven."""
    node, later = step
    back = shortest_way(inside, later, [root])
    rings = [way_back(came, node) + back, way_back(came, later) + back[1:]]
    return [ring for ring in rings if _gain_along(gains, ring) != 0][0]


def _grown(graph, ring):
    """The answer that two runs go ever more apart by this ring."""
    lead = shortest_way(graph.edges, 0, ring[:1])
    tail = shortest_way(graph.edges, ring[0], graph.ends)
    one, other = graph.runs_along(lead + ring[1:] + tail[1:])
    if _gain_along(graph.gains, ring) < 0:
        # Two runs that change places lose what they gained, and are alike as before.
        one, other = other, one
    return ("grows", one, other, len(lead), len(lead) + len(ring) - 1)


def _roots(rings):
    """The first node of each ring, the rings in order."""
    roots = {}
    for node, ring in enumerate(rings):
        if ring not in roots:
            roots[ring] = node
    return [roots[ring] for ring in sorted(list(roots))]


def _heights(graph, followers, trees):
    """The greatest gain up to each live node, where no ring gains or loses anything; trees of the rings in order."""
    heights = {0: graph.gains[0]}
    for reached in trees:
        # How high the root would have to be, by each node of its ring to which a way from outside comes.
        base = max([heights[node] - reached[node] for node in reached if node in heights])
        for node in reached:
            heights[node] = base + reached[node]
        for node in reached:
            for later in followers[node]:
                height = heights[node] + graph.gains[later]
                heights[later] = max(height, heights.get(later, height))
    return heights


def _most_apart(graph, followers, heights):
    """The answer that two runs go so far apart, and no further."""
    value = max([heights[node] for node in graph.ends])
    tight = [[] for _ in followers]
    for node, height in heights.items():
        tight[node] = [later for later in followers[node] if height + graph.gains[later] == heights[later]]
    way = shortest_way(tight, 0, [node for node in graph.ends if heights[node] == value])
    one, other = graph.runs_along(way)
    table = tuple([(state, heights.get(number)) for number, state in enumerate(graph.states)])
    return ("most", value, one, other, table)


def how_far_apart(pairs):
    """What unsure tells."""
    graph = PairGraph(pairs)
    if not graph.live[0]:
        return ("none",)
    followers = graph.live_followers()
    rings = rings_in_order(followers)
    inside = within(followers, [ring if alive else None for ring, alive in zip(rings, graph.live)])
    trees = []
    for root in [node for node in _roots(rings) if graph.live[node]]:
        reached, came = _tree(inside, graph.gains, root)
        step = _uneven_step(inside, graph.gains, reached)
        if step is not None:
            return _grown(graph, _growing_ring(inside, graph.gains, came, root, step))
        trees.append(reached)
    return _most_apart(graph, followers, _heights(graph, followers, trees))


def are_twins(pairs, one, other):
    """Whether any two values are whole runs that are alike."""
    program = pairs.program
    if not program.is_whole(one) or not program.is_whole(other):
        return False
    return alike(program, pairs.counters, pairs.plan, one, other)


def gained(pairs, one, other, *, since=0, until=None):
    """How much more the first run is worth than the second one, at the places from since up to until."""
    here, there = [worth(pairs.program, pairs.question, run, since=since, until=until) for run in (one, other)]
    return here - there


def go_apart(pairs, one, other, first, last):
    """Whether any values are two twins and places between which they gain what they can gain again and again."""
    if not are_twins(pairs, one, other) or not is_integer(first) or not is_integer(last):
        return False
    if not 0 < first < last <= len(one) or (last - first) % pairs.ticks != 0:
        return False
    if one[first - 1] != one[last - 1] or other[first - 1] != other[last - 1]:
        return False
    if not are_twins(pairs, one[:first] + one[last:], other[:first] + other[last:]):
        return False
    return gained(pairs, one, other, since=first, until=last) > 0


def _is_table_row(pairs, value):
    return is_row(value, 2) and pairs.is_pair(value[0]) and (value[1] is None or is_integer(value[1]))


def _is_high_enough(pairs, heights, state, height):
    """Whether a row, by what follows it, has the rows behind it that it needs."""
    for follower in pairs.followers(state):
        if follower not in heights:
            return False
        later = heights[follower]
        if later is not None and (height is None or later < height + pairs.gain(follower)):
            return False
    return True


def _shows_most(pairs, value, table):
    """Whether any table shows that no two twins differ by more than the value."""
    if not isinstance(table, tuple) or not all([_is_table_row(pairs, row) for row in table]):
        return False
    heights = {state: height for state, height in table}
    if len(heights) < len(table) or pairs.beginning() not in heights:
        return False
    begun = heights[pairs.beginning()]
    if begun is not None and begun < pairs.gain(pairs.beginning()):
        return False
    told = [height for state, height in table if pairs.is_end(state)]
    if any([height is None or height > value for height in told]):
        return False
    return all([_is_high_enough(pairs, heights, state, height) for state, height in table])


def _has_a_whole_run(program):
    reached = {program.names[0]: True}
    waiting = [program.names[0]]
    while waiting:
        later = program.following(waiting.pop())
        if len(later) == 0:
            return True
        for name in later:
            if name not in reached:
                reached[name] = True
                waiting.append(name)
    return False


def _shows_how_far(pairs, value):
    """Whether any value tells rightly how far twins can go apart."""
    if is_row(value, 1):
        return value[0] == "none" and not _has_a_whole_run(pairs.program)
    if not is_row(value, 5):
        return False
    if value[0] == "grows":
        return go_apart(pairs, value[1], value[2], value[3], value[4])
    _, most, one, other, table = value
    if value[0] != "most" or not is_integer(most) or not are_twins(pairs, one, other):
        return False
    return gained(pairs, one, other) == most and _shows_most(pairs, most, table)


def _checked(program, counters, plan, question):
    check_counters(counters)
    check_plan(counters, plan)
    check_question(question)
    return Pairs(program, counters, plan, question)


def unsure(program, counters, plan, question):
    """How much two whole runs that are alike under the plan can differ: ("none",), ("most", ..) or ("grows", ..)."""
    return how_far_apart(_checked(program, counters, plan, question))


def shows_unsure(program, counters, plan, question, value):
    """Whether any value is what unsure may tell, and shows it."""
    return _shows_how_far(_checked(program, counters, plan, question), value)

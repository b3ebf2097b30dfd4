"""Graphs over the numbers 0, 1 ..: followers is a list that has for each node the list of the nodes that follow it."""


def _backwards(followers):
    ahead = [[] for _ in followers]
    for node, later in enumerate(followers):
        for part in later:
            ahead[part].append(node)
    return ahead


def leading_to(followers, goals):
    """A list that tells for each node whether a way leads from it to one of the goals."""
    ahead = _backwards(followers)
    leading = [False] * len(followers)
    waiting = list(goals)
    while waiting:
        node = waiting.pop()
        if not leading[node]:
            leading[node] = True
            waiting.extend(ahead[node])
    return leading


def within(followers, groups):
    """The followers of each node that are in its own group; groups tells the group of each node, None for none."""
    inside = []
    for node, later in enumerate(followers):
        group = groups[node]
        inside.append([] if group is None else [part for part in later if groups[part] == group])
    return inside


def _by_end(followers):
    """All nodes in the order in which a search that goes into depth is done with them."""
    done = []
    seen = [False] * len(followers)
    for root in range(len(followers)):
        waiting = [] if seen[root] else [(root, 0)]
        seen[root] = True
        while waiting:
            node, at = waiting.pop()
            if at == len(followers[node]):
                done.append(node)
            else:
                waiting.append((node, at + 1))
                later = followers[node][at]
                if not seen[later]:
                    seen[later] = True
                    waiting.append((later, 0))
    return done


def rings_in_order(followers):
    """For each node the number of its ring: all nodes that lead to one another. No way leads to a lower number."""
    ahead = _backwards(followers)
    rings = [None] * len(followers)
    number = 0
    for root in reversed(_by_end(followers)):
        waiting = [root]
        while waiting:
            node = waiting.pop()
            if rings[node] is None:
                rings[node] = number
                waiting.extend(ahead[node])
        if rings[root] == number:
            number += 1
    return rings


def way_back(came, node):
    """The list of nodes that leads to this one, by a dict that tells for each node from which one it was reached."""
    way = [node]
    while came[way[-1]] is not None:
        way.append(came[way[-1]])
    return way[::-1]


def shortest_way(followers, start, goals):
    """The nodes of a shortest way from the start to one of the goals, both with it; None without one."""
    wanted = {goal: True for goal in goals}
    came = {start: None}
    waiting = [start]
    while waiting:
        later = []
        for node in waiting:
            if node in wanted:
                return way_back(came, node)
            for part in followers[node]:
                if part not in came:
                    came[part] = node
                    later.append(part)
        waiting = later
    return None

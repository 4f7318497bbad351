"""All states that counted deeds bring about on a small land, walked deed by deed and without the package."""

import oracle
from helpers import subsets


def state_graph(custom, land):
    """For each state that can come the states behind each deed, with the sort of the deed, without the package.

    Only hands that differ are told apart, and only couples whose telling matters are told or not.
    """
    def plain(hands):
        names = {}
        return tuple(names.setdefault(hand, len(names)) for hand in hands)

    def deeds(hands, standings):
        cells = range(land.cells)
        for lot in subsets(cells)[1:]:
            for hand in sorted({*hands, len(set(hands))}):
                moving = [b for b in lot if hands[b] != hand]
                if not moving:
                    continue
                open_couples = [(a, b) for a, b in land.couples if b in moving and a not in moving and hands[a] != hand
                                and standings[a][b] in ("awake", "needed")]
                for told in subsets(open_couples):
                    yield ("goes", lot, hand, told), "untold" if len(told) < len(open_couples) else "plain"
        for one in set(hands):
            for other in set(hands) - {one}:
                ours = [a for a in cells if hands[a] == one]
                theirs = [b for b in cells if hands[b] == other]
                for lot in subsets(ours)[1:]:
                    for over in subsets(theirs)[1:]:
                        yield ("grant", lot, over), "grant"
                        yield ("gives", lot, over), "gives"

    first = ((0,) * land.cells, (("none",) * land.cells,) * land.cells)
    graph, queue = {}, [first]
    while queue:
        state = queue.pop()
        if state in graph:
            continue
        graph[state] = set()
        for deed, sort in deeds(*state):
            _, hands, standings = oracle.stages(custom, land, *state, deed)[-1]
            graph[state].add((sort, (plain(hands), standings)))
        queue += [behind for _, behind in graph[state]]
    return graph


def sorts_of(counted):
    """The sorts of deeds that are counted."""
    asked = {"plain": True, "untold": counted.untold, "grant": counted.grants, "gives": counted.giving_up}
    return {sort for sort, truth in asked.items() if truth}


def came_by(graph, counted, start=None):
    """For each state that counted deeds bring about, from the start state or another one, the fewest deeds."""
    many = len(next(iter(graph))[0])
    start = start or ((0,) * many, (("none",) * many,) * many)
    sorts = sorts_of(counted)
    fewest, level = {start: 0}, [start]
    while level:
        further = []
        for state in level:
            for sort, behind in graph[state]:
                if sort in sorts and behind not in fewest:
                    fewest[behind] = fewest[state] + 1
                    further.append(behind)
        level = further
    return fewest


def is_shut(land, state, cell):
    """Whether the cell is shut off in a state of the graph."""
    hands, standings = state
    rights = {(a, b): standings[a][b] for a, b in land.couples}
    return not oracle.is_open(land, cell, oracle.passing(hands, rights, cell))

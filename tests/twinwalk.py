"""All pairs of states that the same counted deeds bring about under two customs, walked without the package."""

import oracle
from helpers import subsets

RIGHTS = ("awake", "needed")


def plain(hands):
    """The hands named 0, 1, .. as they first come."""
    names = {}
    return tuple(names.setdefault(hand, len(names)) for hand in hands)


def counted_deeds(land, counted, hands, tables):
    """Every deed that is counted under both customs; only couples whose telling matters are told or not."""
    cells = range(land.cells)
    for lot in subsets(cells)[1:]:
        for hand in sorted({*hands, len(set(hands))}):
            moving = [b for b in lot if hands[b] != hand]
            if not moving:
                continue
            bearing = [(a, b) for a, b in land.couples if b in moving and a not in moving and hands[a] != hand
                       and any(table[a][b] in RIGHTS for table in tables)]
            for untold in subsets(bearing) if counted.untold else [()]:
                yield ("goes", lot, hand, [couple for couple in bearing if couple not in untold])
    for one in set(hands):
        for other in set(hands) - {one}:
            for lot in subsets([a for a in cells if hands[a] == one])[1:]:
                for over in subsets([b for b in cells if hands[b] == other])[1:]:
                    if counted.grants:
                        yield ("grant", lot, over)
                    if counted.giving_up:
                        yield ("gives", lot, over)


def twin_states(land, one, other, counted):
    """All (hands, standings by the one custom, standings by the other) that counted deeds bring about."""
    bare = (("none",) * land.cells,) * land.cells
    found, queue, known = {((0,) * land.cells, bare, bare)}, [((0,) * land.cells, bare, bare)], {}

    def behind(custom, hands, table, deed):
        key = (custom.number, hands, table, str(deed))
        if key not in known:
            known[key] = oracle.stages(custom, land, hands, table, deed)[-1]
        return known[key]

    while queue:
        hands, first, second = queue.pop()
        for deed in counted_deeds(land, counted, hands, (first, second)):
            _, now, left = behind(one, hands, first, deed)
            _, _, right = behind(other, hands, second, deed)
            state = (plain(now), left, right)
            if state not in found:
                found.add(state)
                queue.append(state)
    return found

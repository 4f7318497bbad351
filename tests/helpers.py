"""What several tests share: how errors are looked at, odd things, lands, and histories without end."""

import random
from itertools import combinations

from landways.counted import Counted
from landways.customs import custom_at
from landways.deeds import deed_fault, is_counted
from landways.errors import LandError
from landways.histories import History
from landways.lands import Land
from landways.playing import after
from landways.states import State, start_state
from landways.viewtext import parse_view

# Things that are no number, no cell, no hand and no sequence of such.
NO_NUMBERS = (True, False, None, "0", "a", "", 0.0, 1.0, (), [], (0,), {}, set(), object())

PAIR = Land(2, [(0, 1)], [1])
ROW = Land(3, [(0, 1), (1, 2)], [0])
RING = Land(4, [(0, 1), (1, 2), (2, 3), (3, 0)], [0, 2])
FORK = Land(4, [(0, 1), (0, 2), (2, 3)], [1, 3])
HOUSE = Land(5, [(0, 1), (1, 2), (2, 3), (3, 0), (3, 4)], [4])
CHAIN = Land(5, [(0, 1), (1, 2), (2, 3), (3, 4)], [0])
LANDS = (PAIR, ROW, RING, FORK, HOUSE, CHAIN)


def caught(call):
    """The class of the error of the package that the call raises, and its attributes in order."""
    try:
        call()
    except LandError as fault:
        return (type(fault).__name__,) + tuple(vars(fault).values())
    return None


def some_deed(source, state):
    """A deed of right shape, drawn from the source; often it can be done."""
    cells = list(range(state.land.cells))
    word = source.choice(["goes", "goes", "goes", "grant", "gives"])
    chosen = source.sample(cells, source.randint(1, len(cells)))
    if word == "goes":
        couples = list(state.land.couples)
        told = source.sample(couples, source.randint(0, len(couples)))
        return ("goes", chosen, source.randint(0, 4), told)
    lots = [list(lot) for lot in state.lots]
    if len(lots) < 2:
        return ("goes", chosen, 1, [])
    own, other = source.sample(lots, 2)
    return (word, source.sample(own, source.randint(1, len(own))), source.sample(other, source.randint(1, len(other))))


def some_deeds(source, land, custom, many):
    """So many deeds that can be done one behind the other, drawn from the source."""
    state = start_state(land)
    deeds = []
    while len(deeds) < many:
        deed = some_deed(source, state)
        if deed_fault(state, deed) is None:
            deeds.append(deed)
            state = after(custom, state, deed)
    return deeds


def some_histories(seed, customs=range(192), many=12, lands=LANDS):
    """Yield a history for each of the customs, on one land after the other."""
    source = random.Random(seed)
    lands = tuple(lands)
    for k, number in enumerate(customs):
        land = lands[k % len(lands)]
        custom = custom_at(number)
        yield History(land, custom, some_deeds(source, land, custom, many))


def subsets(cells):
    """All subsets as ascending tuples: fewer cells first, then as tuples are ordered."""
    cells = sorted(cells)
    return [lot for many in range(len(cells) + 1) for lot in combinations(cells, many)]


def look(land, text):
    """The view with this text."""
    return parse_view(land, text)


def tuples_only(thing):
    """Whether a thing that is returned is made of tuples, and of things that are no sequences."""
    if isinstance(thing, (list, set, dict)):
        return False
    return not isinstance(thing, tuple) or all(tuples_only(part) for part in thing)


def in_order(rows, order):
    """The rows of a table in this order of their old indexes, each naming the same row ahead of it as before."""
    places = {old: new for new, old in enumerate(order)}
    return tuple((row[0], row[1], None if row[2] is None else places[row[2]], row[3])
                 for row in (rows[old] for old in order))


def some_states(seed, many, lands=LANDS):
    """Yield states that no history need bring about."""
    source = random.Random(seed)
    for k in range(many):
        land = lands[k % len(lands)]
        hands = [source.randint(0, 2) for _ in range(land.cells)]
        table = [["none"] * land.cells for _ in range(land.cells)]
        for a, b in land.couples:
            table[a][b] = source.choice(["none", "asleep"] if hands[a] == hands[b] else ["none", "awake", "needed"])
        yield State(land, hands, table)


# Things that are no sequence of anything, for places where a lot or a row of such is asked.
NO_SEQUENCES = (None, True, 0, 7, "", "01", {}, {0: 1}, set(), object())
VEE = Land(3, [(0, 1), (0, 2)], [1, 2])


def some_counted(source):
    """A Counted, drawn from the source."""
    return Counted(*source.choices([False, True], k=3))


def is_played(history, land, custom, counted, past=()):
    """Whether a history is one of the land under the custom that begins with the past, all else counted."""
    assert (history.land, history.custom) == (land, custom)
    assert history == History(land, custom, history.deeds)
    assert history.deeds[:len(past)] == tuple(past)
    return all(is_counted(counted, history.state_at(k), history.deeds[k]) for k in range(len(past), len(history)))

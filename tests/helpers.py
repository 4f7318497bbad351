"""What several tests share: how errors are looked at, odd things, lands, and histories without end."""

import random

from landways.customs import custom_at
from landways.deeds import deed_fault
from landways.errors import LandError
from landways.histories import History
from landways.lands import Land
from landways.playing import after
from landways.states import start_state

# Things that are no number, no cell, no hand and no sequence of such.
NO_NUMBERS = (True, False, None, "0", "a", "", 0.0, 1.0, (), [], (0,), {}, set(), object())

PAIR = Land(2, [(0, 1)], [1])
ROW = Land(3, [(0, 1), (1, 2)], [0])
RING = Land(4, [(0, 1), (1, 2), (2, 3), (3, 0)], [0, 2])
FORK = Land(4, [(0, 1), (0, 2), (2, 3)], [1, 3])
HOUSE = Land(5, [(0, 1), (1, 2), (2, 3), (3, 0), (3, 4)], [4])
CHAIN = Land(5, [(0, 1), (1, 2), (2, 3), (3, 4)], [0])
LANDS = (PAIR, ROW, RING, FORK, HOUSE, CHAIN)


def caught(call):
    """The class of the error of the package that the call raises, and its attributes in order."""
    try:
        call()
    except LandError as fault:
        return (type(fault).__name__,) + tuple(vars(fault).values())
    return None


def some_deed(source, state):
    """A deed of right shape, drawn from the source; often it can be done."""
    cells = list(range(state.land.cells))
    word = source.choice(["goes", "goes", "goes", "grant", "gives"])
    chosen = source.sample(cells, source.randint(1, len(cells)))
    if word == "goes":
        couples = list(state.land.couples)
        told = source.sample(couples, source.randint(0, len(couples)))
        return ("goes", chosen, source.randint(0, 4), told)
    lots = [list(lot) for lot in state.lots]
    if len(lots) < 2:
        return ("goes", chosen, 1, [])
    own, other = source.sample(lots, 2)
    return (word, source.sample(own, source.randint(1, len(own))), source.sample(other, source.randint(1, len(other))))


def some_deeds(source, land, custom, many):
    """So many deeds that can be done one behind the other, drawn from the source."""
    state = start_state(land)
    deeds = []
    while len(deeds) < many:
        deed = some_deed(source, state)
        if deed_fault(state, deed) is None:
            deeds.append(deed)
            state = after(custom, state, deed)
    return deeds


def some_histories(seed, customs=range(192), many=12, lands=LANDS):
    """Yield a history for each of the customs, on one land after the other."""
    source = random.Random(seed)
    lands = tuple(lands)
    for k, number in enumerate(customs):
        land = lands[k % len(lands)]
        custom = custom_at(number)
        yield History(land, custom, some_deeds(source, land, custom, many))

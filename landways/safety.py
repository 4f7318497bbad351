"""Which cells a cell passes now and always, where no right arises by need [6.8]."""

from landways.counted import meant
from landways.customs import check_sides
from landways.errors import BadPair
from landways.gathering import fresh_hand, goes_told
from landways.lands import check_cells
from landways.playing import DYING
from landways.reaching import opens
from landways.twocells import PAIRS, pair_of, ways_from


def _is_safe(custom, counted, pair, near):
    """Whether the pair is not "none" and never becomes so."""
    return "none" not in ways_from(custom, counted, pair, near)


def is_safe_pair(custom, counted, pair, *, near=True):
    """Whether the pair is not "none" and no counted events lead from it to "none"."""
    if pair not in PAIRS:
        raise BadPair(pair)
    if not near:
        check_sides(custom, "need")
    return _is_safe(custom, meant(counted), pair, near)


def safe_lot(custom, counted, state, cell):
    """The cell and the others that it passes in the state and behind all counted deeds, ascending."""
    found = [cell]
    for b in state.land.others(cell):
        if _is_safe(custom, counted, pair_of(state, cell, b), b in state.land.nearby[cell]):
            found.append(b)
    return tuple(sorted(found))


def _check(history, cell):
    """Refuse a custom with "need", then what is no cell."""
    check_sides(history.custom, "need")
    check_cells(history.land, cell)


def safe_cells(history, cell, counted=None):
    """The cell and the others that it passes now and behind all counted deeds, ascending."""
    _check(history, cell)
    return safe_lot(history.custom, meant(counted), history.state, cell)


def can_be_shut(history, cell, counted=None):
    """Whether the cell is shut off now or behind some counted deeds that may follow."""
    _check(history, cell)
    return not opens(history.land, cell, safe_lot(history.custom, meant(counted), history.state, cell))


def _losing_deeds(history, cell, counted):
    """Two deeds by which the cell, whose rights can be lost, loses all."""
    state = history.state
    others = history.land.others(cell)
    hand = fresh_hand(state.hands)
    # All others come into one hand, so that one deed bears on all rights over them.
    parting = goes_told(history.land, others, hand)
    if counted.giving_up:
        return (parting, ("gives", (cell,), others))
    leaving = fresh_hand(state.hands + (hand,))
    return (parting, goes_told(history.land, others, leaving, [(cell, b) for b in others]))


def _parting_deeds(history, cell, safe):
    """The deeds, one or two, by which the cell, whose rights cannot be lost otherwise, is parted from its own cells."""
    land, custom, state = history.land, history.custom, history.state
    deeds = ()
    mates = [b for b in state.own_cells(cell) if b != cell]
    # A right that is awake and not safe can only die as its cell comes into the cell's hand.
    coming = [b for b in state.passing(cell) if b not in safe and b not in mates and b != cell]
    if coming:
        deeds = (goes_told(land, coming, state.hands[cell]),)
    # "none" leaves no right over any own cell, "beside" over those only that are no neighbours.
    word = "none" if "none" in (custom.sold, custom.kept) else "beside"
    leaving = (cell,) if custom.sold == word else mates + coming
    return deeds + (goes_told(land, leaving, fresh_hand(state.hands)),)


def stripping(history, cell, counted=None):
    """At most two counted deeds behind which the cell passes just its safe cells."""
    _check(history, cell)
    truth = meant(counted)
    safe = safe_lot(history.custom, truth, history.state, cell)
    if history.state.passing(cell) == safe:
        return ()
    # Without "need" a right that is lost by a deed is awake.
    if truth.giving_up or (truth.untold and "awake" in DYING[history.custom.untold]):
        return _losing_deeds(history, cell, truth)
    return _parting_deeds(history, cell, safe)


def safe_couples(history, counted=None):
    """All couples (a, b) with b among the safe cells of a, ascending."""
    check_sides(history.custom, "need")
    truth = meant(counted)
    lots = [safe_lot(history.custom, truth, history.state, a) for a in range(history.land.cells)]
    return tuple([(a, b) for a, b in history.land.couples if b in lots[a]])

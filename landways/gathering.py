"""Deeds that do a step from a state [4.9]."""

from landways.deeds import shaped
from landways.errors import BadCells
from landways.lands import check_cells, is_lot
from landways.playing import played
from landways.steps import check_step
from landways.views import view_of


def fresh_hand(hands):
    """The least hand that is none of these."""
    return min([hand for hand in range(len(hands) + 1) if hand not in hands])


def goes_told(land, cells, hand, untold=()):
    """The deed by which the cells go to the hand, with all couples told that bear on them but the untold ones."""
    told = [(a, b) for a, b in land.couples if b in cells and (a, b) not in untold]
    return shaped(("goes", cells, hand, told))


def gathering(state, cells):
    """The deeds, none or one, that bring just these cells into one hand."""
    if tuple(sorted(cells)) in state.lots:
        return ()
    return (goes_told(state.land, cells, fresh_hand(state.hands)),)


def gather_deeds(state, cells):
    """The deeds, none or one, that bring just these cells into one hand."""
    if not is_lot(state.land, cells, 1):
        raise BadCells("cells")
    return gathering(state, cells)


def gift_deeds(state, word, givers, cells):
    """The deeds, one or two, by which the givers, of one hand, are granted or give up rights over the cells."""
    deed = (word, tuple(sorted(givers)), tuple(sorted(cells)))
    if len(set([state.hands[b] for b in cells])) == 1:
        return (deed,)
    return gathering(state, cells) + (deed,)


def _brought(state, cell, step):
    """The deeds, one or two, that do a step without a fault."""
    if step.kind == "grant":
        return gift_deeds(state, "grant", (cell,), step.cells)
    if step.kind == "give":
        return gift_deeds(state, "gives", (cell,), step.cells)
    if step.kind == "come":
        return (goes_told(state.land, step.cells, state.hands[cell]),)
    # In a hand of their own the cells of a Go lie with just those that are to be held.
    untold = [(cell, b) for b in step.others] if step.kind == "leave" else ()
    return (goes_told(state.land, step.cells + step.others, fresh_hand(state.hands), untold),)


def bring_step(state, cell, step):
    """The deeds, one or two, that do the step from the state."""
    check_step(view_of(state, cell), step)
    return _brought(state, cell, step)


def stepped_history(history, cell, steps):
    """The history with the deeds that do the steps, one after the other, behind its own."""
    check_cells(history.land, cell)
    state = history.state
    added = []
    for step in steps:
        for deed in bring_step(state, cell, step):
            added.append(deed)
            state = played(history.custom, state, deed)
    return history.then(*added)

"""Grants that keep a cell open, whatever comes behind them [10.8], [10.9]."""

from landways.changes import is_lesser
from landways.counted import meant
from landways.errors import BadCells
from landways.lands import check_cells, is_lot
from landways.lots import all_lots
from landways.reaching import opens
from landways.safety import is_safe_pair, safe_cells
from landways.verdicts import Never, verdict_behind


class Keeping:
    """The least lots that keep the cell, each with its Never, and those without a lesser one, each with its Shut."""

    def __init__(self, good, bad):
        self.good = good
        self.bad = bad


def grantable_cells(state, cell):
    """The cells of other hands over which the right of the cell is none or needed, ascending."""
    check_cells(state.land, cell)
    return tuple([b for b in range(state.land.cells)
                  if state.hands[b] != state.hands[cell] and state.standings[cell][b] in ("none", "needed")])


def with_grants(history, cell, lot):
    """The history with a grant more over each cell of the lot."""
    free = grantable_cells(history.state, cell)
    if not is_lot(history.land, lot, 0) or [b for b in lot if b not in free]:
        raise BadCells("lot")
    deeds = [("grant", (cell,), (b,)) for b in sorted(lot)]
    return history.then(*deeds)


def keeping_grants(history, cell, counted=None):
    """The lots of grantable cells that have no lesser lot that keeps the cell, each with its verdict."""
    good = []
    bad = []
    for lot in all_lots(grantable_cells(history.state, cell)):
        if not [one for one, _ in good if is_lesser(one, lot)]:
            told = verdict_behind(with_grants(history, cell, lot), cell, counted)
            if isinstance(told, Never):
                good.append((lot, told))
            else:
                bad.append((lot, told))
    return Keeping(tuple(good), tuple(bad))


def spoiling_grants(history, cell, counted=None):
    """For each least lot that keeps the cell each further cell with which it does not, with the Shut."""
    found = []
    for lot, _ in keeping_grants(history, cell, counted).good:
        for other in grantable_cells(history.state, cell):
            if other not in lot:
                told = verdict_behind(with_grants(history, cell, lot + (other,)), cell, counted)
                if not isinstance(told, Never):
                    found.append((lot, other, told))
    return tuple(found)


def least_keeping(history, cell, counted=None):
    """The least lots that keep the cell, in order, where no right arises by need; no table is asked."""
    safe = safe_cells(history, cell, counted)
    truth = meant(counted)
    free = grantable_cells(history.state, cell)
    staying = [b for b in free
               if is_safe_pair(history.custom, truth, "awake", near=history.land.is_neighbour(cell, b))]
    found = []
    for lot in all_lots(free):
        passing = list(safe) + [b for b in lot if b in staying]
        if opens(history.land, cell, passing) and not [one for one in found if is_lesser(one, lot)]:
            found.append(lot)
    return tuple(found)

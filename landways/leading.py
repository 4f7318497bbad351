"""Histories of two cells led over to other lands [6.5]."""

from landways.customs import check_sides
from landways.deeds import shape_fault, shaped
from landways.errors import BadDeed, NotTwoCells, RoadCell
from landways.everyland import probe_land
from landways.histories import History
from landways.lands import check_cells


def _check_cell(land, cell):
    """Refuse what is no cell, then a road cell."""
    check_cells(land, cell)
    if cell in land.roads:
        raise RoadCell(cell)


def led_by_lot(land, lot, deed):
    """A deed of two cells, of right shape, led over: the lot stands for cell 0, all other cells for cell 1."""
    sides = (list(lot), [b for b in range(land.cells) if b not in lot])
    cells = [b for side in deed[1] for b in sides[side]]
    if deed[0] != "goes":
        return shaped((deed[0], cells, [b for side in deed[2] for b in sides[side]]))
    told = [(a, b) for one, other in deed[3] for a in sides[one] for b in sides[other]]
    return shaped((deed[0], cells, deed[2], told))


def lead_deed(land, cell, deed):
    """The deed of two cells led over: the cell stands for cell 0, all other cells for cell 1."""
    _check_cell(land, cell)
    word = shape_fault(probe_land("bound"), deed)
    if word is not None:
        raise BadDeed(word)
    return led_by_lot(land, (cell,), deed)


def lead_over(history, land, cell):
    """The history of two cells led over to the land, where the cell goes the way of cell 0."""
    if history.land != probe_land("bound"):
        raise NotTwoCells()
    check_sides(history.custom, "beside")
    _check_cell(land, cell)
    return History(land, history.custom, [led_by_lot(land, (cell,), deed) for deed in history.deeds])

"""Histories of two cells led over to other lands [6.5]."""

from landways.customs import check_sides
from landways.deeds import shape_fault, shaped
from landways.errors import BadDeed, NotTwoCells, RoadCell
from landways.everyland import probe_land
from landways.histories import History
from landways.lands import check_cells


def _check_cell(land, cell):
    """Refuse what is no cell, then a road cell."""
    check_cells(land, cell)
    if cell in land.roads:
        raise RoadCell(cell)


def _led_lot(land, cell, lot):
    """The cells for which the cells of two cells stand."""
    return [b for b in range(land.cells) if (0 if b == cell else 1) in lot]


def _led(land, cell, deed):
    """A deed of two cells, of right shape, led over to the land."""
    cells = _led_lot(land, cell, deed[1])
    if deed[0] != "goes":
        return shaped((deed[0], cells, _led_lot(land, cell, deed[2])))
    told = []
    for one, _ in deed[3]:
        told.extend([(cell, b) if one == 0 else (b, cell) for b in land.others(cell)])
    return shaped((deed[0], cells, deed[2], told))


def lead_deed(land, cell, deed):
    """The deed of two cells led over: the cell stands for cell 0, all other cells for cell 1."""
    _check_cell(land, cell)
    word = shape_fault(probe_land("bound"), deed)
    if word is not None:
        raise BadDeed(word)
    return _led(land, cell, deed)


def lead_over(history, land, cell):
    """The history of two cells led over to the land, where the cell goes the way of cell 0."""
    if history.land != probe_land("bound"):
        raise NotTwoCells()
    check_sides(history.custom, "beside")
    _check_cell(land, cell)
    return History(land, history.custom, [_led(land, cell, deed) for deed in history.deeds])

"""Which cells a cell comes to, and over which lots a way leads from it to the road [1.4]."""

from landways.errors import BadCells
from landways.lands import check_cells, is_lot, spread
from landways.lots import all_lots


def _check(land, cell, passing):
    """Refuse what is no cell, then what is no lot of cells to pass."""
    check_cells(land, cell)
    if not is_lot(land, passing, 0):
        raise BadCells("passing")


def reached(land, cell, passing):
    """The cell and all cells to which it comes, ascending."""
    _check(land, cell, passing)
    return tuple(sorted(spread(land.nearby, cell, passing)))


def opens(land, cell, passing):
    """Whether the cell comes to the road or lies there; for a cell and a lot, which are not checked."""
    return any([b in land.roads for b in spread(land.nearby, cell, passing)])


def is_open(land, cell, passing):
    """Whether the cell comes to the road or lies there."""
    _check(land, cell, passing)
    return opens(land, cell, passing)


def open_way(land, cell, passing):
    """The first of the shortest ways from the cell to the road, or None."""
    _check(land, cell, passing)
    # Ways are kept by length, then as tuples are ordered. So the first way to
    # each cell is its least one, and later ways to the same cell are not wanted.
    ways = [(cell,)]
    ends = [cell]
    done = 0
    while done < len(ways):
        way = ways[done]
        if way[-1] in land.roads:
            return way
        for b in land.nearby[way[-1]]:
            if b in passing and b not in ends:
                ways.append(way + (b,))
                ends.append(b)
        done += 1
    return None


def least_lots(land, cell, passing, among):
    """All lots of the fewest cells of `among` that open the cell, together with `passing`, in order."""
    _check(land, cell, passing)
    if not is_lot(land, among, 0):
        raise BadCells("among")
    found = []
    for lot in all_lots(sorted([b for b in among if b != cell])):
        if found and len(lot) > len(found[0]):
            break
        if opens(land, cell, [*passing, *lot]):
            found.append(lot)
    return tuple(found)


def least_lot(land, cell, passing, among):
    """The first of the least lots, or None."""
    lots = least_lots(land, cell, passing, among)
    return lots[0] if lots else None

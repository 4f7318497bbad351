"""Lands: which cells are neighbours, and which lie at the road [1.1], [1.2]."""

from landways.errors import BadCell, BadLand

MOST_CELLS = 5
MOST_HAND = 10 ** 30


def is_sequence(thing):
    """Whether the thing is a list or a tuple."""
    return isinstance(thing, (list, tuple))


def is_whole(thing, low, high):
    """Whether the thing is a whole number from low to high."""
    # bool is a subclass of int, but True and False are no numbers here.
    return isinstance(thing, int) and not isinstance(thing, bool) and low <= thing <= high


def are_cells(many, thing, least):
    """Whether the thing is a sequence of at least `least` different whole numbers below `many`."""
    if not is_sequence(thing) or len(thing) < least:
        return False
    if not all([is_whole(cell, 0, many - 1) for cell in thing]):
        return False
    return len(set(thing)) == len(thing)


def are_two_cells(many, thing):
    """Whether the thing is a sequence of exactly two different whole numbers below `many`."""
    return are_cells(many, thing, 2) and len(thing) == 2


def is_cell(land, thing):
    """Whether the thing is a cell of the land."""
    return is_whole(thing, 0, land.cells - 1)


def is_lot(land, thing, least):
    """Whether the thing is a lot of at least `least` cells of the land."""
    return are_cells(land.cells, thing, least)


def is_couple(land, thing):
    """Whether the thing is a sequence of exactly two different cells of the land."""
    return are_two_cells(land.cells, thing)


def check_cells(land, *things):
    """Refuse the first of the things that is no cell of the land."""
    for thing in things:
        if not is_cell(land, thing):
            raise BadCell(thing)


def spread(nearby, cell, passing):
    """The cell and all cells to which it comes over `passing`, as they are found."""
    found = [cell]
    done = 0
    while done < len(found):
        here = found[done]
        for b in nearby[here]:
            if b in passing and b not in found:
                found.append(b)
        done += 1
    return found


def nearby_cells(cells, couples):
    """For each cell the tuple of its neighbours, ascending."""
    return tuple([tuple([b for b in range(cells) if (a, b) in couples or (b, a) in couples]) for a in range(cells)])


def hang_together(cells, couples):
    """Whether each cell is reached from cell 0 by steps from neighbour to neighbour."""
    return len(spread(nearby_cells(cells, couples), 0, list(range(cells)))) == cells


def _are_neighbours(cells, thing):
    """Whether the thing is a sequence of couples, no two of them of the same two cells."""
    if not is_sequence(thing) or not all([are_two_cells(cells, couple) for couple in thing]):
        return False
    return len({tuple(sorted(couple)) for couple in thing}) == len(thing)


class Land:
    """A land of a few cells that hang together, some of them, but not all, at the road."""

    def __init__(self, cells, neighbours, roads):
        if not is_whole(cells, 2, MOST_CELLS):
            raise BadLand("cells")
        if not _are_neighbours(cells, neighbours):
            raise BadLand("neighbours")
        if not are_cells(cells, roads, 1) or len(roads) == cells:
            raise BadLand("roads")
        couples = sorted([tuple(sorted(couple)) for couple in neighbours])
        if not hang_together(cells, couples):
            raise BadLand("whole")
        self.cells = cells
        self.neighbours = tuple(couples)
        self.roads = tuple(sorted(roads))
        self.nearby = nearby_cells(cells, couples)
        self._couples = tuple([(a, b) for a in range(cells) for b in range(cells) if a != b])

    def __eq__(self, other):
        return (isinstance(other, Land) and self.cells == other.cells
                and self.neighbours == other.neighbours and self.roads == other.roads)

    @property
    def couples(self):
        """All couples of cells, ascending."""
        return self._couples

    def is_neighbour(self, one, other):
        """Whether two cells are neighbours."""
        check_cells(self, one, other)
        return other in self.nearby[one]

    def around(self, cell):
        """The neighbours of the cell, ascending."""
        check_cells(self, cell)
        return self.nearby[cell]

    def others(self, cell):
        """All cells but this one, ascending."""
        check_cells(self, cell)
        return tuple([b for b in range(self.cells) if b != cell])

    def is_road(self, cell):
        """Whether the cell is a road cell."""
        check_cells(self, cell)
        return cell in self.roads

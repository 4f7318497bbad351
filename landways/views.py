"""Views: what a land looks like from one cell [4.1], [4.2]."""

from landways.errors import BadCell, BadNumber, BadView
from landways.lands import Land, check_cells, is_cell, is_lot, is_whole
from landways.reaching import opens
from landways.states import RIGHTS, is_row

# The ways of another cell, in the order of the digits 0 to 4 of a view's number.
DIGITS = ("own", "asleep", "none", "awake", "needed")
_OWN = ("own", "asleep")


def number_of_row(cell, own, row):
    """The number of the view that has these own cells and this row of standings."""
    number = 0
    for b, word in enumerate(row):
        if b != cell:
            way = "own" if word == "none" and b in own else word
            number = number * 5 + DIGITS.index(way)
    return number


def _check_places(own, standings):
    """Refuse a right that sleeps over a cell that is not own, or else one that does not over an own cell."""
    if "asleep" in [word for b, word in enumerate(standings) if b not in own]:
        raise BadView("asleep")
    words = [standings[b] for b in own]
    if "awake" in words or "needed" in words:
        raise BadView("awake")


class View:
    """The cells of a cell's hand, and its standing towards each cell."""

    def __init__(self, land, cell, own, standings):
        if not isinstance(land, Land):
            raise BadView("land")
        if not is_cell(land, cell):
            raise BadView("cell")
        if not is_lot(land, own, 1) or cell not in own:
            raise BadView("own")
        if not is_row(land, cell, standings):
            raise BadView("standings")
        _check_places(own, standings)
        self.land = land
        self.cell = cell
        self.own = tuple(sorted(own))
        self.standings = tuple(standings)
        self.outside = tuple([b for b in range(land.cells) if b not in own])
        self.rights = tuple([b for b in self.outside if standings[b] in RIGHTS])
        self.needed = tuple([b for b in self.rights if standings[b] == "needed"])
        self.sleeping = tuple([b for b in self.own if standings[b] == "asleep"])
        self.number = number_of_row(cell, self.own, self.standings)

    def __eq__(self, other):
        return (isinstance(other, View) and self.cell == other.cell and self.own == other.own
                and self.standings == other.standings and self.land == other.land)

    def passing(self):
        """The cells that the cell passes, ascending, itself among them."""
        return tuple(sorted(self.own + self.rights))

    def is_open(self):
        """Whether a way leads from the cell to the road over cells that it passes."""
        return opens(self.land, self.cell, self.own + self.rights)

    def way_of(self, b):
        """The way of another cell."""
        check_cells(self.land, b)
        if b == self.cell:
            raise BadCell(b)
        return "own" if self.standings[b] == "none" and b in self.own else self.standings[b]


def number_of_views(land):
    """How many views one cell of the land has."""
    many = 1
    for _ in range(land.cells - 1):
        many = many * 5
    return many


def view_by_ways(land, cell, ways):
    """The view in which the other cells, ascending, have these ways."""
    words = list(ways[:cell]) + ["own"] + list(ways[cell:])
    own = [b for b, word in enumerate(words) if word in _OWN]
    return View(land, cell, own, ["none" if word == "own" else word for word in words])


def _numbered(land, cell, number):
    """The view with this number, which is not checked."""
    ways = []
    rest = number
    for _ in range(land.cells - 1):
        ways = [DIGITS[rest % 5]] + ways
        rest = rest // 5
    return view_by_ways(land, cell, ways)


def view_at(land, cell, number):
    """The view of the cell with this number."""
    check_cells(land, cell)
    if not is_whole(number, 0, number_of_views(land) - 1):
        raise BadNumber(number)
    return _numbered(land, cell, number)


def all_views(land, cell):
    """Yield all views of the cell by number."""
    check_cells(land, cell)
    for number in range(number_of_views(land)):
        yield _numbered(land, cell, number)


def start_view(land, cell):
    """The view of number 0: all cells are own, and no right sleeps."""
    check_cells(land, cell)
    return _numbered(land, cell, 0)


def view_of(state, cell):
    """The view of the cell in the state."""
    check_cells(state.land, cell)
    return View(state.land, cell, state.own_cells(cell), state.standings[cell])

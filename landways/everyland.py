"""In how few deeds a cell can be shut off, for all lands at once [6.1] to [6.4]."""

from landways.counted import meant
from landways.errors import BadSort
from landways.histories import History
from landways.lands import Land, check_cells
from landways.reaching import opens

SORTS = ("far", "loose", "bound")


def sort_of(land, cell):
    """How the cell lies to the road: "road", "far", "loose" or "bound"."""
    if land.is_road(cell):
        return "road"
    near = near_roads(land, cell)
    if not near:
        return "far"
    return "loose" if opens(land, cell, [b for b in range(land.cells) if b not in near]) else "bound"


def near_roads(land, cell):
    """The road cells next to the cell, ascending."""
    return tuple([b for b in land.nearby[cell] if b in land.roads])


def probe_land(word):
    """The least land whose cell 0 is of this sort."""
    if word == "bound":
        return Land(2, [(0, 1)], [1])
    if word == "far":
        return Land(3, [(0, 1), (1, 2)], [2])
    if word == "loose":
        return Land(4, [(0, 1), (0, 2), (2, 3)], [1, 3])
    raise BadSort(word)


class EveryLand:
    """For each sort of cells the fewest counted deeds behind which such a cell is shut off, or None."""

    def __init__(self, custom, counted, far, loose, bound):
        self.custom = custom
        self.counted = counted
        self.far = far
        self.loose = loose
        self.bound = bound

    def __eq__(self, other):
        return isinstance(other, EveryLand) and self.custom == other.custom and self.counted == other.counted

    @property
    def nowhere(self):
        """Whether no cell is ever shut off."""
        return self.far is None and self.loose is None and self.bound is None

    @property
    def everywhere(self):
        """Whether cells of each sort can be shut off."""
        return self.far is not None and self.loose is not None and self.bound is not None

    def fewest(self, land, cell):
        """The fewest counted deeds behind which the cell is shut off, or None."""
        numbers = {"road": None, "far": self.far, "loose": self.loose, "bound": self.bound}
        return numbers[sort_of(land, cell)]

    def exposed(self, land):
        """The cells that can ever be shut off, ascending."""
        return tuple([cell for cell in range(land.cells) if self.fewest(land, cell) is not None])


def _case(row, counted, sort):
    """The first case of [6.2] that applies to cells of this sort under the custom of the row, or None if none does."""
    untold, joined, sold, kept, _ = row
    both = (sold, kept)
    if "none" in both:
        return "bare"
    if sort == "far" and "beside" in both:
        return "bare"
    if counted.giving_up:
        return "given up"
    if counted.untold and untold == "die":
        return "untold"
    staying = counted.untold and untold == "needed stay"
    if staying and both != ("need", "need"):
        return "untold"
    if sort == "loose" and "beside" in both and "need" in both:
        return "by turns"
    if staying and counted.grants:
        return "granted"
    return "woken" if staying and joined == "sleep" else None


# How many deeds the cases of [6.2] take.
_DEEDS = {"bare": 1, "given up": 2, "untold": 2, "by turns": 2, "granted": 3, "woken": 4}


def on_all_lands(custom, counted=None):
    """The fewest deeds for the cells of each sort, on all lands."""
    truth = meant(counted)
    far, loose, bound = [_DEEDS.get(_case(custom.row, truth, sort)) for sort in SORTS]
    return EveryLand(custom, truth, far, loose, bound)


def is_nowhere(row, counted):
    """Whether no cell is ever shut off on any land under the custom of this row."""
    # Far cells are shut off wherever others are: of the cases of [6.2] "by turns" alone is not for them, and where it
    # applies to loose cells, "beside" shuts far ones off.
    return _case(row, counted, "far") is None


def fewest_deeds(land, custom, cell, counted=None):
    """The fewest counted deeds behind which the cell is shut off, or None."""
    return on_all_lands(custom, counted).fewest(land, cell)


def _parting_deed(land, cell, alone):
    """The deed that parts the cell from all others: it goes alone, or all others go."""
    return ("goes", (cell,) if alone else land.others(cell), 1, land.couples)


def _bare_deeds(land, custom, cell):
    """One deed behind which nothing opens the cell."""
    # "beside" does for far cells alone, "none" for all.
    alone = custom.sold == "none" or (custom.sold == "beside" and custom.kept != "none")
    return (_parting_deed(land, cell, alone),)


def _turned_deeds(land, custom, cell):
    """Two deeds for a loose cell: first the road cells next to it are parted from it, then all others."""
    near = near_roads(land, cell)
    rest = tuple([b for b in land.others(cell) if b not in near])
    if custom.sold == "need":
        # The cell is sold with the rest, by which it is open, and then the rest is sold.
        return (("goes", (cell,) + rest, 1, land.couples), ("goes", rest, 2, land.couples))
    return (("goes", near, 1, land.couples), ("goes", (cell,), 2, land.couples))


def _losing_deeds(land, custom, cell, case):
    """Deeds behind which the cell is parted from all others and has lost all rights over them."""
    others = land.others(cell)
    # By a clause "need" on this side a right might be needed, and would not die untold.
    alone = custom.sold in ("all", "beside")
    parting = _parting_deed(land, cell, alone or custom.kept not in ("all", "beside"))
    if case == "given up":
        return (parting, ("gives", (cell,), others))
    # Behind the parting only hands 0 and 1 have cells.
    going = ("goes", others, 2, ())
    if case == "untold":
        return (parting, going)
    if case == "granted":
        return (parting, ("grant", (cell,), others), going)
    return (parting, ("goes", (cell,), 0, land.couples), parting, going)


def shutting(land, custom, cell, counted=None):
    """A history of as few counted deeds as possible behind which the cell is shut off, or None."""
    check_cells(land, cell)
    sort = sort_of(land, cell)
    case = None if sort == "road" else _case(custom.row, meant(counted), sort)
    if case is None:
        return None
    if case == "bare":
        return History(land, custom, _bare_deeds(land, custom, cell))
    if case == "by turns":
        return History(land, custom, _turned_deeds(land, custom, cell))
    return History(land, custom, _losing_deeds(land, custom, cell, case))

"""States: the hand of each cell and the standing of each couple [3.1]."""

from landways.errors import BadState
from landways.lands import MOST_HAND, Land, check_cells, is_sequence, is_whole
from landways.reaching import opens

STANDINGS = ("none", "awake", "needed", "asleep")
# The standings of a right by which a cell of another hand is passed.
RIGHTS = ("awake", "needed")


def passed_cells(hands, row, a):
    """The cells that a passes with these hands and its row of standings, ascending, a among them."""
    return tuple([b for b, hand in enumerate(hands) if hand == hands[a] or row[b] in RIGHTS])


def _are_hands(land, thing):
    """Whether the thing is a sequence of one hand for each cell."""
    if not is_sequence(thing) or len(thing) != land.cells:
        return False
    return all([is_whole(hand, 0, MOST_HAND) for hand in thing])


def is_row(land, a, thing):
    """Whether the thing is a sequence of one standing of a over each cell, "none" over a itself."""
    if not is_sequence(thing) or len(thing) != land.cells:
        return False
    return all([word in STANDINGS for word in thing]) and thing[a] == "none"


def _are_standings(land, thing):
    """Whether the thing is a sequence of one row of standings for each cell."""
    if not is_sequence(thing) or len(thing) != land.cells:
        return False
    return all([is_row(land, a, row) for a, row in enumerate(thing)])


def _check_places(land, hands, standings):
    """Refuse a right that sleeps between unlike hands, or else one that does not within one hand."""
    apart = [standings[a][b] for a, b in land.couples if hands[a] != hands[b]]
    if "asleep" in apart:
        raise BadState("asleep")
    together = [standings[a][b] for a, b in land.couples if hands[a] == hands[b]]
    if "awake" in together or "needed" in together:
        raise BadState("awake")


class State:
    """A land whose cells lie in hands, with a standing for each couple of cells."""

    def __init__(self, land, hands, standings):
        if not isinstance(land, Land):
            raise BadState("land")
        if not _are_hands(land, hands):
            raise BadState("hands")
        if not _are_standings(land, standings):
            raise BadState("standings")
        _check_places(land, hands, standings)
        self.land = land
        self.hands = tuple(hands)
        self.standings = tuple([tuple(row) for row in standings])

    def __eq__(self, other):
        return (isinstance(other, State) and self.land == other.land
                and self.lots == other.lots and self.standings == other.standings)

    @property
    def shut(self):
        """The cells that are shut off, ascending."""
        return tuple([a for a in range(self.land.cells) if not self.is_open(a)])

    @property
    def lots(self):
        """For each hand that has cells these cells, ordered by least cell."""
        found = {}
        for a, hand in enumerate(self.hands):
            found.setdefault(hand, []).append(a)
        return tuple([tuple(found[hand]) for hand in found])

    def hand(self, a):
        """The hand of the cell."""
        check_cells(self.land, a)
        return self.hands[a]

    def standing(self, a, b):
        """The standing of a's right to go over b."""
        check_cells(self.land, a, b)
        return self.standings[a][b]

    def is_own(self, a, b):
        """Whether the two cells lie in one hand."""
        check_cells(self.land, a, b)
        return self.hands[a] == self.hands[b]

    def passes(self, a, b):
        """Whether b is own to a, or a's right over b is awake or needed."""
        return self.is_own(a, b) or self.standings[a][b] in RIGHTS

    def own_cells(self, a):
        """The cells of a's hand, ascending, a among them."""
        check_cells(self.land, a)
        return tuple([b for b, hand in enumerate(self.hands) if hand == self.hands[a]])

    def passing(self, a):
        """The cells that a passes, ascending, a among them."""
        check_cells(self.land, a)
        return passed_cells(self.hands, self.standings[a], a)

    def is_open(self, a):
        """Whether a way leads from the cell to the road over cells that it passes."""
        return opens(self.land, a, self.passing(a))


def start_state(land):
    """All cells in hand 0, and no right."""
    if not isinstance(land, Land):
        raise BadState("land")
    return State(land, (0,) * land.cells, (("none",) * land.cells,) * land.cells)

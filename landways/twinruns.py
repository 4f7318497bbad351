"""Twin runs: the same deeds done under two customs [8.3]."""

from landways.customs import Custom
from landways.errors import BadHistory
from landways.histories import History
from landways.lands import Land
from landways.twinviews import TwinView
from landways.views import view_of


class TwinRun:
    """The histories of some deeds under two customs."""

    def __init__(self, land, one, other, deeds=()):
        # Both customs are looked at ahead of the deeds, but behind the land.
        if isinstance(land, Land) and not isinstance(other, Custom):
            raise BadHistory(0, "custom")
        self.first = History(land, one, deeds)
        self.second = History(land, other, deeds)
        self.land = land
        self.one = one
        self.other = other
        self.deeds = self.first.deeds

    def __eq__(self, other):
        return (isinstance(other, TwinRun) and self.land == other.land and self.one == other.one
                and self.other == other.other and self.deeds == other.deeds)

    def __len__(self):
        return len(self.deeds)

    def _twin_at(self, many, cell):
        """The cell's twin view behind the first so many deeds."""
        return TwinView(view_of(self.first.state_at(many), cell), view_of(self.second.state_at(many), cell))

    def twins(self, cell):
        """Yield the cell's twin views, ahead of all deeds and behind each."""
        for many in range(len(self.deeds) + 1):
            yield self._twin_at(many, cell)

    def twin(self, cell):
        """The cell's twin view behind all deeds."""
        return self._twin_at(len(self.deeds), cell)

    def _differing_at(self, many, measure):
        """The cells whose twin view behind the first so many deeds differs, ascending."""
        return tuple([cell for cell in range(self.land.cells) if self._twin_at(many, cell).differs(measure)])

    def differing(self, measure):
        """The cells whose twin view behind all deeds differs, ascending."""
        return self._differing_at(len(self.deeds), measure)

    def differs_at(self, measure):
        """The least number of deeds behind which the twin view of some cell differs, or None."""
        for many in range(len(self.deeds) + 1):
            if self._differing_at(many, measure):
                return many
        return None

    def until(self, many):
        """The run of the first so many deeds."""
        return TwinRun(self.land, self.one, self.other, self.first.until(many).deeds)

    def then(self, *deeds):
        """The run with these deeds behind its own."""
        return TwinRun(self.land, self.one, self.other, self.deeds + deeds)

    def turned(self):
        """The run with the customs exchanged."""
        return TwinRun(self.land, self.other, self.one, self.deeds)

    def is_counted(self, counted):
        """Whether each deed is counted in both histories."""
        return self.first.is_counted(counted) and self.second.is_counted(counted)

"""Histories: deeds done in order from the start state [3.5]."""

from landways.customs import Custom
from landways.deeds import deed_fault, is_counted, shaped
from landways.errors import BadHistory, NoDeed
from landways.lands import Land, check_cells, is_sequence, is_whole
from landways.playing import played
from landways.states import start_state

MOST_DEEDS = 10000


def _states_through(land, custom, deeds):
    """The states ahead of all deeds and behind each, as a tuple."""
    states = [start_state(land)]
    for index, deed in enumerate(deeds):
        word = deed_fault(states[-1], deed)
        if word is not None:
            raise BadHistory(index, word)
        states.append(played(custom, states[-1], deed))
    return tuple(states)


class History:
    """A land, a custom, and the deeds that were done."""

    def __init__(self, land, custom, deeds=()):
        if not isinstance(land, Land):
            raise BadHistory(0, "land")
        if not isinstance(custom, Custom):
            raise BadHistory(0, "custom")
        if not is_sequence(deeds):
            raise BadHistory(0, "deeds")
        if len(deeds) > MOST_DEEDS:
            raise BadHistory(MOST_DEEDS, "many")
        self._passed = _states_through(land, custom, deeds)
        self.land = land
        self.custom = custom
        self.deeds = tuple([shaped(deed) for deed in deeds])

    def __eq__(self, other):
        return (isinstance(other, History) and self.land == other.land
                and self.custom == other.custom and self.deeds == other.deeds)

    def __len__(self):
        return len(self.deeds)

    def __iter__(self):
        return iter(self.deeds)

    @property
    def state(self):
        """The state behind all deeds."""
        return self._passed[-1]

    def _check_many(self, many):
        """Refuse what is no number of deeds of the history."""
        if not is_whole(many, 0, len(self.deeds)):
            raise NoDeed(many)

    def states(self):
        """Yield the states ahead of all deeds and behind each."""
        for state in self._passed:
            yield state

    def state_at(self, many):
        """The state behind the first so many deeds."""
        self._check_many(many)
        return self._passed[many]

    def until(self, many):
        """The history of the first so many deeds."""
        self._check_many(many)
        return History(self.land, self.custom, self.deeds[:many])

    def then(self, *deeds):
        """The history with these deeds behind its own."""
        return History(self.land, self.custom, self.deeds + deeds)

    def first_shut(self, cell):
        """The least number of deeds behind which the cell is shut off, or None."""
        check_cells(self.land, cell)
        for many, state in enumerate(self._passed):
            if not state.is_open(cell):
                return many
        return None

    def is_counted(self, counted):
        """Whether each deed is counted in its state."""
        return all([is_counted(counted, self._passed[index], deed) for index, deed in enumerate(self.deeds)])

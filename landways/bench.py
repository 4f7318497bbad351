"""The bench, on which deeds and changes of the custom are tried and taken back [10.10]."""

from landways.errors import BadMark, NothingDone
from landways.histories import History
from landways.lands import is_whole


class Bench:
    """The one object that changes: a history, and the acts that can be taken back."""

    def __init__(self, land, custom, deeds=()):
        self.history = History(land, custom, deeds)
        # The histories ahead of each act that stands. The tuple is never changed itself.
        self._ahead = ()

    def __len__(self):
        return len(self._ahead)

    def _put(self, history):
        """Make the history the present one, by one act."""
        self._ahead = self._ahead + (self.history,)
        self.history = history

    def make(self, *deeds):
        """Put the deeds behind the present ones."""
        self._put(self.history.then(*deeds))

    def change(self, *changes):
        """Make the changes one after the other, and do all deeds again from the start."""
        custom = self.history.custom
        for change in changes:
            custom = change.made(custom)
        self._put(History(self.history.land, custom, self.history.deeds))

    def undo(self):
        """Take the last act back."""
        if len(self._ahead) == 0:
            raise NothingDone()
        self.back_to(len(self._ahead) - 1)

    def back_to(self, many):
        """Take acts back until so many stand."""
        if not is_whole(many, 0, len(self._ahead)):
            raise BadMark(many)
        if many < len(self._ahead):
            self.history = self._ahead[many]
            self._ahead = self._ahead[:many]

    def tried(self, deeds, question):
        """What the question returns, called with this bench with the deeds made; all is taken back behind it."""
        history = self.history
        ahead = self._ahead
        self.make(*deeds)
        try:
            return question(self)
        finally:
            self.history = history
            self._ahead = ahead

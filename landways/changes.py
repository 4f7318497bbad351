"""Changes of customs, and pools of them to choose from [10.1], [10.2]."""

from landways.customs import CLAUSES, words
from landways.errors import BadChoice, BadClause, BadPool, BadText
from landways.lands import is_sequence, is_whole
from landways.lots import all_lots

MOST_CHANGES = 10


class Change:
    """A clause and the word that it is to have."""

    def __init__(self, clause, word):
        if word not in words(clause):
            raise BadClause("word")
        self.clause = clause
        self.word = word

    def __eq__(self, other):
        return isinstance(other, Change) and self.clause == other.clause and self.word == other.word

    def made(self, custom):
        """The custom with this change."""
        return custom.changed(self.clause, self.word)

    @classmethod
    def read(cls, text):
        """The change with exactly this text."""
        for clause in CLAUSES:
            for word in words(clause):
                if text == f"{clause} {word}":
                    return cls(clause, word)
        raise BadText(0, "change")


def change_text(change):
    """The text of the change."""
    return f"{change.clause} {change.word}"


def every_change(custom):
    """Yield the changes whose word is not the custom's, in the order of the clauses, then of their words."""
    for clause in CLAUSES:
        for word in words(clause):
            if word != custom.word(clause):
                yield Change(clause, word)


def is_lesser(one, other):
    """Whether of two choices, or of two ascending lots, the first is a part of the other and not equal to it."""
    return len(one) < len(other) and all([index in other for index in one])


def is_ascending(many, thing):
    """Whether the thing is a sequence of ascending whole numbers below `many`, without repeats."""
    if not is_sequence(thing) or not all([is_whole(index, 0, many - 1) for index in thing]):
        return False
    return sorted(set(thing)) == list(thing)


class Pool:
    """Some changes, of which a choice may be made."""

    def __init__(self, changes):
        if not is_sequence(changes) or not is_whole(len(changes), 1, MOST_CHANGES):
            raise BadPool(0, "pool")
        for index, change in enumerate(changes):
            if not isinstance(change, Change):
                raise BadPool(index, "change")
        self.changes = tuple(changes)

    def __len__(self):
        return len(self.changes)

    def __iter__(self):
        return iter(self.changes)

    def _has_unlike_clauses(self, choice):
        """Whether the changes of the choice have unlike clauses."""
        return len(set([self.changes[index].clause for index in choice])) == len(choice)

    def lawful_choices(self):
        """Yield all lawful choices in order."""
        for choice in all_lots(list(range(len(self.changes)))):
            if self._has_unlike_clauses(choice):
                yield choice

    def custom_by(self, custom, choice):
        """The custom with the changes of the choice."""
        if not is_ascending(len(self.changes), choice):
            raise BadChoice("choice")
        if not self._has_unlike_clauses(choice):
            raise BadChoice("clause")
        found = custom
        for index in choice:
            found = self.changes[index].made(found)
        return found

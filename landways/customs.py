"""Customs: one word for each of five clauses [2.1], [2.2], [2.3]."""

from landways.errors import BadClause, BadCustom, BadNumber, NeedsLand
from landways.lands import is_whole

CLAUSES = ("untold", "joined", "sold", "kept", "ends")
MOST_CUSTOMS = 192
_WORDS = {
    "untold": ("stay", "die", "needed stay"),
    "joined": ("die", "sleep"),
    "sold": ("none", "all", "beside", "need"),
    "kept": ("none", "all", "beside", "need"),
    "ends": ("never", "free"),
}


def _check_clause(clause):
    """Refuse what is no clause."""
    if clause not in CLAUSES:
        raise BadClause("clause")


def words(clause):
    """The words of a clause, in order."""
    _check_clause(clause)
    return _WORDS[clause]


class Custom:
    """What becomes of rights: a word for each clause."""

    def __init__(self, untold, joined, sold, kept, ends):
        row = (untold, joined, sold, kept, ends)
        number = 0
        for clause, word in zip(CLAUSES, row):
            if word not in _WORDS[clause]:
                raise BadCustom(clause)
            number = number * len(_WORDS[clause]) + _WORDS[clause].index(word)
        self.untold = untold
        self.joined = joined
        self.sold = sold
        self.kept = kept
        self.ends = ends
        self.row = row
        self.number = number

    def __eq__(self, other):
        return isinstance(other, Custom) and self.row == other.row

    def __iter__(self):
        return iter(self.row)

    def word(self, clause):
        """The word of a clause."""
        _check_clause(clause)
        return self.row[CLAUSES.index(clause)]

    def changed(self, clause, word):
        """The custom with this word of the clause in the place of the old one."""
        if word not in words(clause):
            raise BadClause("word")
        row = [word if name == clause else old for name, old in zip(CLAUSES, self.row)]
        return Custom(*row)

    def uses(self, word):
        """The clauses that have this word, in order."""
        return tuple([clause for clause, old in zip(CLAUSES, self.row) if old == word])


def custom_at(number):
    """The custom of this number."""
    if not is_whole(number, 0, MOST_CUSTOMS - 1):
        raise BadNumber(number)
    row = []
    rest = number
    for clause in reversed(CLAUSES):
        many = len(_WORDS[clause])
        row = [_WORDS[clause][rest % many]] + row
        rest = rest // many
    return Custom(*row)


def customs():
    """Yield all customs by number."""
    for number in range(MOST_CUSTOMS):
        yield custom_at(number)


def custom_rows():
    """The rows of all customs, by number."""
    return [(untold, joined, sold, kept, ends) for untold in words("untold") for joined in words("joined")
            for sold in words("sold") for kept in words("kept") for ends in words("ends")]


def numbers_among(told):
    """The numbers, ascending, of the customs whose words are among those told for their clauses, each in order."""
    numbers = [0]
    for clause, some in zip(CLAUSES, told):
        known = _WORDS[clause]
        places = [known.index(word) for word in some]
        numbers = [number * len(known) + place for number in numbers for place in places]
    return tuple(numbers)


def differences(one, other):
    """The clauses in which two customs differ, in order."""
    return tuple([clause for clause in CLAUSES if one.word(clause) != other.word(clause)])


def check_sides(custom, *barred):
    """Refuse a custom of which sold, or else kept, is one of these words, with which an answer hangs on the land."""
    for clause in ("sold", "kept"):
        if custom.word(clause) in barred:
            raise NeedsLand(clause)

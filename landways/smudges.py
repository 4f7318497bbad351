"""Smudged registers: deeds of which some words are lost, and their fillings [9.1], [9.2]."""

from landways.customs import Custom
from landways.deeds import are_told
from landways.errors import BadFinding, BadHistory, BadSmudge, NoFilling, TooMany
from landways.histories import History
from landways.lands import MOST_HAND, Land, is_couple, is_sequence, is_whole
from landways.lots import all_lots

MOST_LOST = 4
MOST_FILLINGS = 256


def _is_row(row):
    """Whether the thing has the form of a lost row."""
    return is_sequence(row) and len(row) == 3 and row[0] in ("told", "hand")


def _is_place(deeds, index):
    """Whether the thing is the index of a deed that goes, as far as its length and its first word tell."""
    if not is_whole(index, 0, len(deeds) - 1):
        return False
    deed = deeds[index]
    return is_sequence(deed) and len(deed) == 4 and deed[0] == "goes"


def _are_hands(thing):
    """Whether the thing is a sequence of at least one hand, none of them twice."""
    if not is_sequence(thing) or len(thing) == 0:
        return False
    return all([is_whole(hand, 0, MOST_HAND) for hand in thing]) and len(set(thing)) == len(thing)


def _row_fault(land, deeds, lost, place):
    """The first word that tells what is wrong with the lost row at this place, or None."""
    row = lost[place]
    if not _is_row(row):
        return "row"
    if not _is_place(deeds, row[1]):
        return "deed"
    if row[0] == "told" and (not are_told(land, row[2]) or len(row[2]) == 0):
        return "couples"
    if row[0] == "hand" and not _are_hands(row[2]):
        return "hands"
    return "double" if [other for other in lost[:place] if other[0] == row[0] and other[1] == row[1]] else None


def _plain_row(row):
    """The lost row as tuples, its couples ascending."""
    if row[0] == "hand":
        return (row[0], row[1], tuple(row[2]))
    return (row[0], row[1], tuple(sorted([tuple(couple) for couple in row[2]])))


def _number_of_findings(row):
    """How many findings a plain row has."""
    return len(row[2]) if row[0] == "hand" else 1 << len(row[2])


def _all_findings(rows):
    """All tuples of findings, one finding of each plain row; those of the first row change slowest."""
    found = [()]
    for word, _, things in rows:
        findings = things if word == "hand" else all_lots(things)
        found = [told + (finding,) for told in found for finding in findings]
    return found


def deed_with_finding(deed, word, finding):
    """The deed that goes with the finding of a lost row put in."""
    if word == "hand":
        return (deed[0], deed[1], finding, deed[3])
    if not is_sequence(deed[3]):
        # Such a deed is wrong, whatever is found, and stays so.
        return deed
    there = [tuple(couple) if is_sequence(couple) else couple for couple in deed[3]]
    return (deed[0], deed[1], deed[2], tuple(there + [couple for couple in finding if couple not in there]))


def _filled_deeds(deeds, rows, findings):
    """The deeds with these findings put in."""
    filled = list(deeds)
    for row, finding in zip(rows, findings):
        filled[row[1]] = deed_with_finding(filled[row[1]], row[0], finding)
    return filled


def _lawful_history(land, custom, deeds):
    """The history of the deeds, or None if they make none."""
    try:
        return History(land, custom, deeds)
    except BadHistory:
        return None


def _plain_deed(deed):
    """The deed as tuples, in the order in which it was passed."""
    if deed[0] != "goes":
        return (deed[0], tuple(deed[1]), tuple(deed[2]))
    return (deed[0], tuple(deed[1]), deed[2], tuple([tuple(couple) for couple in deed[3]]))


class Smudged:
    """The deeds of a register, of which some told couples and some hands are lost."""

    def __init__(self, land, custom, deeds, lost):
        if not isinstance(land, Land):
            raise BadSmudge(0, "land")
        if not isinstance(custom, Custom):
            raise BadSmudge(0, "custom")
        if not is_sequence(deeds):
            raise BadSmudge(0, "deeds")
        if not is_sequence(lost) or len(lost) > MOST_LOST:
            raise BadSmudge(0, "lost")
        for place in range(len(lost)):
            word = _row_fault(land, deeds, lost, place)
            if word is not None:
                raise BadSmudge(place, word)
        rows = tuple([_plain_row(row) for row in lost])
        many = 1
        for row in rows:
            many = many * _number_of_findings(row)
        if many > MOST_FILLINGS:
            raise TooMany(many)
        told = [(findings, _lawful_history(land, custom, _filled_deeds(deeds, rows, findings)))
                for findings in _all_findings(rows)]
        # All is asked of these over and over, so they are made once.
        self._lawful = tuple([(findings, history) for findings, history in told if history is not None])
        if len(self._lawful) == 0:
            raise NoFilling()
        self.land = land
        self.custom = custom
        self.deeds = tuple([_plain_deed(deed) for deed in deeds])
        self.lost = rows
        self.many = many

    def __eq__(self, other):
        return (isinstance(other, Smudged) and self.land == other.land and self.custom == other.custom
                and self.deeds == other.deeds and self.lost == other.lost)

    def fillings(self):
        """All lawful fillings, in order, as pairs of findings and a history."""
        return self._lawful


def lawful_fillings(smudged):
    """Yield (findings, history) for each lawful filling, in order."""
    for findings, history in smudged.fillings():
        yield (findings, history)


def number_of_fillings(smudged):
    """How many fillings are lawful."""
    return len(smudged.fillings())


def plain_finding(land, row, finding):
    """The finding of the lost row, its couples ascending; what is none is refused."""
    if row[0] == "hand":
        if not is_whole(finding, 0, MOST_HAND) or finding not in row[2]:
            raise BadFinding("finding")
        return finding
    if not is_sequence(finding) or not all([is_couple(land, couple) for couple in finding]):
        raise BadFinding("finding")
    couples = sorted([tuple(couple) for couple in finding])
    if len(set(couples)) < len(couples) or [couple for couple in couples if couple not in row[2]]:
        raise BadFinding("finding")
    return tuple(couples)


def filled_history(smudged, findings):
    """The history of the filling with these findings."""
    if not is_sequence(findings) or len(findings) != len(smudged.lost):
        raise BadFinding("findings")
    plain = tuple([plain_finding(smudged.land, row, finding) for row, finding in zip(smudged.lost, findings)])
    for told, history in smudged.fillings():
        if told == plain:
            return history
    raise NoFilling()

"""What finding lost words settles, and what can still come behind a smudged register [9.4] to [9.6]."""

from landways.errors import BadFinding
from landways.lands import is_whole
from landways.lots import all_lots
from landways.safety import can_be_shut, safe_cells
from landways.smudges import Smudged, deed_with_finding, lawful_fillings, plain_finding
from landways.tidings import unsure_couples


def _check_place(smudged, place):
    """Refuse what is no index of a lost row."""
    if not is_whole(place, 0, len(smudged.lost) - 1):
        raise BadFinding("place")


def with_finding(smudged, place, finding):
    """The register in which the lost row is found, and its finding put in."""
    _check_place(smudged, place)
    word, index, _ = smudged.lost[place]
    plain = plain_finding(smudged.land, smudged.lost[place], finding)
    deeds = list(smudged.deeds)
    deeds[index] = deed_with_finding(deeds[index], word, plain)
    left = [row for k, row in enumerate(smudged.lost) if k != place]
    return Smudged(smudged.land, smudged.custom, deeds, left)


def telling_findings(smudged, place):
    """The findings of two fillings that differ at this place alone and have unlike states, or None."""
    _check_place(smudged, place)
    first = {}
    for findings, history in lawful_fillings(smudged):
        others = tuple([finding for k, finding in enumerate(findings) if k != place])
        if others not in first:
            first[others] = (findings, history.state)
        elif history.state != first[others][1]:
            return (first[others][0], findings)
    return None


def is_idle(smudged, place):
    """Whether any two fillings that differ in this row alone have equal states behind all deeds."""
    return telling_findings(smudged, place) is None


def _tables_by_findings(smudged, places):
    """For each tuple of findings at these places the standings, cell by cell, of its fillings."""
    tables = {}
    for findings, history in lawful_fillings(smudged):
        key = tuple([findings[place] for place in places])
        tables.setdefault(key, []).append(history.state.standings)
    return [tables[key] for key in tables]


def _is_sure(tables, a, b):
    """Whether the couple has one standing in all of the tables."""
    return len(set([table[a][b] for table in tables])) == 1


def settled_by(smudged, place):
    """The unsure couples whose standing is sure whatever is found in this row, ascending."""
    _check_place(smudged, place)
    groups = _tables_by_findings(smudged, (place,))
    return tuple([(a, b) for a, b in unsure_couples(smudged) if all([_is_sure(tables, a, b) for tables in groups])])


def _settles_all(smudged, places):
    """Whether each couple is sure, whatever is found at these places."""
    groups = _tables_by_findings(smudged, places)
    return all([len(set(tables)) == 1 for tables in groups])


def least_findings(smudged):
    """All least lots of places whose findings make each couple sure, in order."""
    found = []
    for lot in all_lots(list(range(len(smudged.lost)))):
        lesser = [one for one in found if all([place in lot for place in one])]
        if not lesser and _settles_all(smudged, lot):
            found.append(lot)
    return tuple(found)


def prospect(smudged, cell, counted=None):
    """Whether counted deeds can ever shut the cell off: "safe", "exposed" or "unsure"."""
    truths = [can_be_shut(history, cell, counted) for _, history in lawful_fillings(smudged)]
    if all(truths):
        return "exposed"
    return "unsure" if any(truths) else "safe"


def sure_safe_cells(smudged, cell, counted=None):
    """The cells that are safe for the cell in each filling, ascending."""
    lots = [safe_cells(history, cell, counted) for _, history in lawful_fillings(smudged)]
    return tuple([b for b in lots[0] if all([b in lot for lot in lots])])

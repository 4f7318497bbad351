"""What a smudged register tells, surely or not [9.3]."""

from landways.errors import BadCell
from landways.lands import check_cells
from landways.smudges import lawful_fillings
from landways.states import STANDINGS


def _check_couple(smudged, a, b):
    """Refuse what is no cell, then a second one that is the first."""
    check_cells(smudged.land, a, b)
    if a == b:
        raise BadCell(b)


def _meant_many(smudged, many):
    """The number of deeds that is meant: of all of them where None is passed."""
    return len(smudged.deeds) if many is None else many


def _states(smudged, many):
    """The state behind so many deeds in each filling, in order; a history refuses what is no such number."""
    behind = _meant_many(smudged, many)
    return [history.state_at(behind) for _, history in lawful_fillings(smudged)]


def told_standings(smudged, a, b, many=None):
    """The standings that the couple has behind so many deeds in some filling, in the order of STANDINGS."""
    _check_couple(smudged, a, b)
    words = [state.standing(a, b) for state in _states(smudged, many)]
    return tuple([word for word in STANDINGS if word in words])


def sure_standing(smudged, a, b, many=None):
    """The one standing of the couple in all fillings, or None if there are several."""
    told = told_standings(smudged, a, b, many)
    return told[0] if len(told) == 1 else None


def _openness(states, cell):
    """Whether the cell is open in all of the states, shut off in all, or neither."""
    truths = [state.is_open(cell) for state in states]
    if all(truths):
        return "open"
    return "unsure" if any(truths) else "shut"


def openness(smudged, cell, many=None):
    """Whether the cell is open behind so many deeds: "open", "shut" or "unsure"."""
    check_cells(smudged.land, cell)
    return _openness(_states(smudged, many), cell)


def parting_findings(smudged, a, b, many=None):
    """The findings of two fillings that give the couple unlike standings, or None if there are none."""
    _check_couple(smudged, a, b)
    behind = _meant_many(smudged, many)
    first = None
    for findings, history in lawful_fillings(smudged):
        standing = history.state_at(behind).standing(a, b)
        if first is None:
            first = (findings, standing)
        elif standing != first[1]:
            return (first[0], findings)
    return None


def unsure_couples(smudged, many=None):
    """The couples with several standings, ascending."""
    states = _states(smudged, many)
    return tuple([(a, b) for a, b in smudged.land.couples
                  if [state for state in states if state.standings[a][b] != states[0].standings[a][b]]])


def unsure_cells(smudged, many=None):
    """The cells that are open in some fillings and shut off in others, ascending."""
    states = _states(smudged, many)
    return tuple([cell for cell in range(smudged.land.cells) if _openness(states, cell) == "unsure"])

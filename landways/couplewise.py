"""Where no clause needs the land, the standing of a couple can be followed by itself [3.7]."""

from landways.errors import BadCell, BadCustom
from landways.lands import check_cells


def followed(history, a, b):
    """Whether a and b lie in one hand, and the standing, ahead of all deeds and behind each."""
    if history.custom.sold == "need":
        raise BadCustom("sold")
    if history.custom.kept == "need":
        raise BadCustom("kept")
    check_cells(history.land, a, b)
    if a == b:
        raise BadCell(b)
    return tuple([(state.is_own(a, b), state.standing(a, b)) for state in history.states()])

"""The judge of grants that keep a cell open [10.8]."""

from landways.keeping import Keeping, grantable_cells, with_grants
from landways.lots import all_lots
from landways.mendjudge import are_least, are_pairs
from landways.tablejudge import verdict_fault
from landways.verdicts import Never, Shut


def _granted_fault(history, cell, counted, lot, told):
    """The word of the judge for the verdict behind the grants over the lot, or None."""
    return verdict_fault(with_grants(history, cell, lot), cell, counted, told)


def keeping_fault(history, cell, counted, keeping):
    """The first word that tells what is wrong with what is told of grants that keep the cell, or None."""
    if not isinstance(keeping, Keeping) or not are_pairs(keeping.good) or not are_pairs(keeping.bad):
        return "rows"
    good = [row[0] for row in keeping.good]
    bad = [row[0] for row in keeping.bad]
    if not are_least(list(all_lots(grantable_cells(history.state, cell))), history.land.cells, good, bad):
        return "lots"
    for lot, told in keeping.good:
        if not isinstance(told, Never) or _granted_fault(history, cell, counted, lot, told) is not None:
            return "good"
    for lot, told in keeping.bad:
        if not isinstance(told, Shut) or _granted_fault(history, cell, counted, lot, told) is not None:
            return "bad"
    return None

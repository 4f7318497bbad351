"""Why a right stands as it does, and when cells were shut off [3.6]."""

from landways.lands import check_cells
from landways.playing import stages


def ledger(history):
    """Yield (index, stage, a, b, old, new) for each change of a standing, in order."""
    for index, deed in enumerate(history.deeds):
        state = history.state_at(index)
        old = state.standings
        for stage, _, new in stages(history.custom, state, deed):
            for a, b in history.land.couples:
                if old[a][b] != new[a][b]:
                    yield (index, stage, a, b, old[a][b], new[a][b])
            old = new


def reason(history, a, b):
    """The index and the stage of the couple's last change, or None if it has none."""
    check_cells(history.land, a, b)
    found = None
    for row in ledger(history):
        if row[2:4] == (a, b):
            found = row[:2]
    return found


def shuttings(history):
    """Yield (many, cell) for each cell that is shut off behind `many` deeds and was open one deed ahead."""
    for many in range(1, len(history.deeds) + 1):
        ahead = history.state_at(many - 1).shut
        for cell in history.state_at(many).shut:
            if cell not in ahead:
                yield (many, cell)

"""What a step does to a view, stage by stage, and what step a deed is for a cell [4.5] to [4.7]."""

from landways.deeds import check_deed, hands_behind
from landways.lands import check_cells
from landways.playing import DYING, GIFTS, JOINED, cells_over, ended_row, fresh_standing
from landways.states import RIGHTS
from landways.steps import Come, Give, Go, Grant, Leave, check_step, own_after
from landways.views import View

# The word of the deeds that are steps of each kind.
_GIVING = {"grant": "grant", "give": "gives"}


def _with_word(row, cells, olds, word):
    """The row with this word for those of the cells that have one of the old words."""
    return tuple([word if b in cells and old in olds else old for b, old in enumerate(row)])


def _hands_of_lot(land, own):
    """Hands with which just these cells are own; which hands the others lie in does not matter to the cell."""
    return tuple([0 if b in own else 1 for b in range(land.cells)])


def _arisen(custom, view, kind, left, row, hands):
    """The row behind the stage "arisen", with the cells that are own no more."""
    word = custom.sold if kind == "go" else custom.kept
    fresh = [b for b in left if row[b] == "none"]
    over = cells_over(view.land, hands, row, view.cell, word, fresh)
    return _with_word(row, over, ("none",), fresh_standing(word))


def _gone_rows(custom, view, plan, own):
    """The stages of a step that moves cells, but for the last one."""
    kind, _, others = plan
    row = view.standings
    rows = []
    if kind == "leave":
        row = _with_word(row, others, DYING[custom.untold], "none")
        rows.append(("untold", row))
    row = _with_word(row, own, RIGHTS, JOINED[custom.joined])
    rows.append(("joined", row))
    left = [b for b in view.own if b not in own]
    if left:
        row = _with_word(row, left, ("asleep",), "awake")
        rows.append(("woken", row))
        row = _arisen(custom, view, kind, left, row, _hands_of_lot(view.land, own))
        rows.append(("arisen", row))
    return rows


def _stage_rows(custom, view, plan, own):
    """The stages of the step, each with the row of standings behind it."""
    kind, cells, _ = plan
    if kind in _GIVING:
        stage, olds, word = GIFTS[_GIVING[kind]]
        rows = [(stage, _with_word(view.standings, cells, olds, word))]
    else:
        rows = _gone_rows(custom, view, plan, own)
    if custom.ends == "free" and "needed" in rows[-1][1]:
        hands = _hands_of_lot(view.land, own)
        rows.append(("ended", ended_row(view.land, hands, rows[-1][1], view.cell)))
    return rows


def plan_of(step):
    """The kind and the two lots of a step."""
    return (step.kind, step.cells, step.others)


def behind_plan(custom, view, plan):
    """The own cells and the row of standings behind a step of this plan, which is not checked."""
    own = own_after(view.own, *plan)
    return own, _stage_rows(custom, view, plan, own)[-1][1]


def seen(custom, view, step):
    """The view behind a step, which is not checked."""
    own, row = behind_plan(custom, view, plan_of(step))
    return View(view.land, view.cell, own, row)


def step_changes(custom, view, step):
    """Yield (stage, b, old, new) for each change of a standing, stage by stage."""
    check_step(view, step)
    old = view.standings
    for stage, new in _stage_rows(custom, view, plan_of(step), step.own_behind(view)):
        for b, word in enumerate(new):
            if old[b] != word:
                yield (stage, b, old[b], word)
        old = new


def see_step(custom, view, step):
    """The view behind the step."""
    check_step(view, step)
    return seen(custom, view, step)


def settled_view(custom, view):
    """The view behind the stage "ended" alone."""
    row = view.standings
    if custom.ends == "free":
        row = ended_row(view.land, _hands_of_lot(view.land, view.own), row, view.cell)
    return View(view.land, view.cell, view.own, row)


def is_settled_view(custom, view):
    """Whether the stage "ended" alone leaves the view as it is."""
    return settled_view(custom, view) == view


def _moving_step(state, cell, deed):
    """The step that a deed that goes is for the cell's view, or None."""
    own = state.own_cells(cell)
    now = hands_behind(state, deed)
    moved = [b for b in range(state.land.cells) if now[b] != state.hands[b]]
    gone = [b for b in own if b in moved]
    if deed[2] == state.hands[cell]:
        return Come(moved)
    if cell in moved:
        held = [b for b in range(state.land.cells) if now[b] == deed[2] and b not in gone]
        return Go(gone, held) if held or len(gone) < len(own) else None
    told = [tuple(couple) for couple in deed[3]]
    untold = [b for b in moved if b not in own and (cell, b) not in told]
    return Leave(gone, untold) if gone or untold else None


def step_of(state, cell, deed):
    """The step that the deed is for the cell's view, or None."""
    check_cells(state.land, cell)
    check_deed(state, deed)
    if deed[0] == "goes":
        return _moving_step(state, cell, deed)
    if cell not in deed[1]:
        return None
    return Grant(deed[2]) if deed[0] == "grant" else Give(deed[2])

"""The plain steps of a view: of the steps that do the same, one [4.8]."""

from landways.counted import meant
from landways.lots import all_lots
from landways.playing import DYING
from landways.steps import Come, Give, Grant, Leave, check_step, step_by_plan


def mortal_rights(custom, view):
    """The cells with a right that dies as they go on untold, ascending."""
    return tuple([b for b in view.rights if view.standings[b] in DYING[custom.untold]])


def _plain_leave(custom, view, step):
    """The plain step for a Leave, or None."""
    mortal = mortal_rights(custom, view)
    untold = [b for b in step.others if b in mortal]
    return Leave(step.cells, untold) if step.cells or untold else None


def _plain_gift(view, step):
    """The plain step for a Grant or a Give, or None."""
    if step.kind == "grant":
        cells = [b for b in step.cells if view.standings[b] != "awake"]
        return Grant(cells) if cells else None
    cells = [b for b in step.cells if b in view.rights]
    return Give(cells) if cells else None


def plain_step(custom, view, step):
    """The plain step that does the same, or None if the step only settles the view."""
    check_step(view, step)
    if step.kind == "leave":
        return _plain_leave(custom, view, step)
    if step.kind in ("grant", "give"):
        return _plain_gift(view, step)
    if step.kind == "go" and step.cells == view.own:
        return Come(step.others) if step.others else None
    return step_by_plan(step.kind, step.cells, step.others)


def _moving_plans(view, mortal, counted):
    """The plans of the steps that move cells, with these mortal rights, in order."""
    mates = [b for b in view.own if b != view.cell]
    leaving = all_lots(mates)
    untold = all_lots(mortal) if counted.untold else ((),)
    outside = all_lots(view.outside)
    plans = [("leave", cells, others) for cells in leaving for others in untold if cells or others]
    plans = plans + [("come", cells, ()) for cells in outside if cells]
    # The cell itself goes, too; it leaves the order of the lots as it is.
    going = [tuple(sorted([view.cell, *cells])) for cells in leaving if len(cells) < len(mates)]
    return plans + [("go", cells, others) for cells in going for others in outside]


def plans_over(view, mortal, free, rights, counted):
    """The plans of all counted steps, in order, where these rights are mortal, and these can be granted or given up."""
    plans = _moving_plans(view, mortal, counted)
    if counted.grants:
        plans = plans + [("grant", cells, ()) for cells in all_lots(free) if cells]
    if counted.giving_up:
        plans = plans + [("give", cells, ()) for cells in all_lots(rights) if cells]
    return plans


def free_cells(view):
    """The cells outside over which a grant gives the cell more than it has, ascending."""
    return tuple([b for b in view.outside if view.standings[b] != "awake"])


def step_plans(custom, view, counted):
    """The plans (kind, cells, others) of all plain steps of the view that are counted, in order."""
    return plans_over(view, mortal_rights(custom, view), free_cells(view), view.rights, counted)


def plain_steps(custom, view, counted=None):
    """Yield all plain steps of the view that are counted, in order."""
    for kind, cells, others in step_plans(custom, view, meant(counted)):
        yield step_by_plan(kind, cells, others)


def number_of_steps(custom, view, counted=None):
    """How many plain steps of the view are counted."""
    return len(step_plans(custom, view, meant(counted)))

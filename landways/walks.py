"""Where the steps of a table lead, what is in danger, and the walk of a history through views [5.7] to [5.9]."""

from landways.counted import meant
from landways.deeds import is_counted
from landways.errors import NotCounted, NoView
from landways.lands import check_cells
from landways.listing import plain_step, step_plans
from landways.seeing import behind_plan, seen, step_of
from landways.steps import step_by_plan
from landways.tables import view_table
from landways.views import number_of_row, view_of


def ends_of_steps(custom, counted, view):
    """For each counted plain step of the view, in order, its plan and the number of the view behind it."""
    rows = []
    for plan in step_plans(custom, view, counted):
        own, row = behind_plan(custom, view, plan)
        rows.append((plan, number_of_row(view.cell, own, row)))
    return rows


def first_leaving(table):
    """The first view and step of the table that lead out of it, with the view behind, or None."""
    known = {view.number: True for view in table.views}
    for view in table.views:
        for plan, number in ends_of_steps(table.custom, table.counted, view):
            if number not in known:
                step = step_by_plan(*plan)
                return (view, step, seen(table.custom, view, step))
    return None


def _sources(table):
    """For each row the indices of the rows from which a step leads to it."""
    places = {view.number: index for index, view in enumerate(table.views)}
    found = [[] for _ in table.rows]
    for index, view in enumerate(table.views):
        numbers = [number for _, number in ends_of_steps(table.custom, table.counted, view)]
        for number in sorted(set(numbers)):
            found[places[number]].append(index)
    return found


def _steps_to(table, goals):
    """For each row the least number of steps that lead from it to one of these rows, or None."""
    sources = _sources(table)
    least = [0 if index in goals else None for index in range(len(table.rows))]
    queue = list(goals)
    done = 0
    while done < len(queue):
        here = queue[done]
        for index in sources[here]:
            if least[index] is None:
                least[index] = least[here] + 1
                queue.append(index)
        done += 1
    return tuple(least)


def all_dangers(table):
    """For each row the danger of its view: the least number of steps until the cell is shut off, or None."""
    return _steps_to(table, [index for index, view in enumerate(table.views) if not view.is_open()])


def danger_of(table, view):
    """The danger of a view of the table."""
    if view not in table:
        raise NoView(view)
    return all_dangers(table)[table.views.index(view)]


def safe_views(table):
    """The views from which the cell can never be shut off, in order of the rows."""
    return tuple([view for view, danger in zip(table.views, all_dangers(table)) if danger is None])


def lost_views(table):
    """The views from which no steps lead back to the start, in order of the rows."""
    return tuple([view for view, many in zip(table.views, _steps_to(table, [0])) if many is None])


def view_walk(history, cell):
    """Yield the cell's first view with None, then the view behind each deed with the plain step that the deed is."""
    check_cells(history.land, cell)
    view = view_of(history.state_at(0), cell)
    yield (view, None)
    for index, deed in enumerate(history.deeds):
        step = step_of(history.state_at(index), cell, deed)
        plain = None if step is None else plain_step(history.custom, view, step)
        view = view_of(history.state_at(index + 1), cell)
        yield (view, plain)


def retold(history, cell, counted=None):
    """A history without detours in which the cell has the same view at the end."""
    check_cells(history.land, cell)
    truth = meant(counted)
    for index, deed in enumerate(history.deeds):
        if not is_counted(truth, history.state_at(index), deed):
            raise NotCounted(index)
    table = view_table(history.land, history.custom, cell, truth)
    return table.history_of(view_of(history.state, cell))

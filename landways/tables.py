"""Tables of all views that can come behind a history [5.1] to [5.6]."""

from landways.counted import meant
from landways.errors import BadCell, NoView
from landways.gathering import stepped_history
from landways.histories import History
from landways.lands import check_cells
from landways.listing import step_plans
from landways.seeing import behind_plan
from landways.steps import step_by_plan
from landways.views import View, number_of_row, view_of

WAYS = ("own", "asleep", "none", "awake", "needed")


def _distances_within(some, others):
    """Whether each row of some has a row of the others with the same view and distance."""
    found = {(view.number, distance): view for view, distance, _, _ in others}
    return all([found.get((view.number, distance)) == view for view, distance, _, _ in some])


class Table:
    """The views of a cell that can come behind a past, each with a step that leads to it."""

    def __init__(self, past, cell, counted, rows):
        self.past = past
        self.cell = cell
        self.counted = counted
        self.rows = rows
        self.land = past.land
        self.custom = past.custom

    def __eq__(self, other):
        return (isinstance(other, Table) and self.past == other.past and self.cell == other.cell
                and self.counted == other.counted and _distances_within(self.rows, other.rows)
                and _distances_within(other.rows, self.rows))

    def __len__(self):
        return len(self.rows)

    def __iter__(self):
        return iter(self.rows)

    def __contains__(self, view):
        return isinstance(view, View) and view in self.views

    @property
    def views(self):
        """The views of the rows, in their order."""
        return tuple([row[0] for row in self.rows])

    def _place(self, view):
        """The index of the row of the view."""
        if view not in self:
            raise NoView(view)
        return self.views.index(view)

    def distance(self, view):
        """The least number of steps that lead to the view from the start."""
        return self.rows[self._place(view)][1]

    def way_to(self, view):
        """As few steps as possible that lead to the view from the start."""
        _, _, before, step = self.rows[self._place(view)]
        steps = []
        while before is not None:
            steps = [step] + steps
            _, _, before, step = self.rows[before]
        return tuple(steps)

    def history_of(self, view):
        """A history, on from the past, behind which the cell has the view."""
        return stepped_history(self.past, self.cell, self.way_to(view))

    def is_within(self, other):
        """Whether each view of the table is a view of the other one."""
        found = {view.number: view for view in other.views}
        return all([found.get(view.number) == view for view in self.views])


def _new_rows(custom, counted, rows, first, known):
    """The rows one step further than the rows from the first index on, by number; what is found becomes known."""
    found = {}
    for index in range(first, len(rows)):
        view, distance, _, _ = rows[index]
        for plan in step_plans(custom, view, counted):
            own, row = behind_plan(custom, view, plan)
            number = number_of_row(view.cell, own, row)
            if number not in known:
                known[number] = True
                behind = View(view.land, view.cell, own, row)
                found[number] = (behind, distance + 1, index, step_by_plan(*plan))
    return [found[number] for number in sorted(found)]


def _has_shut(rows):
    """Whether the cell is shut off in a view of the rows."""
    return len([row for row in rows if not row[0].is_open()]) > 0


def _grown_table(history, cell, counted, to_shut):
    """The table of the views that can come: of all, or, `to_shut`, as far as to the nearest in which it is shut off."""
    check_cells(history.land, cell)
    truth = meant(counted)
    start = view_of(history.state, cell)
    rows = [(start, 0, None, None)]
    known = {start.number: True}
    done = 0
    while done < len(rows) and not (to_shut and _has_shut(rows[done:])):
        further = _new_rows(history.custom, truth, rows, done, known)
        done = len(rows)
        rows = rows + further
    return Table(history, cell, truth, tuple(rows))


def table_behind(history, cell, counted=None):
    """The table of all views that can come behind the history."""
    return _grown_table(history, cell, counted, False)


def table_to_shut(history, cell, counted=None):
    """The table of all views that can come, but no further than to the nearest in which the cell is shut off."""
    return _grown_table(history, cell, counted, True)


def view_table(land, custom, cell, counted=None):
    """The table of all views that can come behind the empty history."""
    return table_behind(History(land, custom), cell, counted)


def ways_of(table, other):
    """The ways that the other cell has in some view of the table, in the order of WAYS."""
    check_cells(table.land, other)
    if other == table.cell:
        raise BadCell(other)
    found = [view.way_of(other) for view in table.views]
    return tuple([way for way in WAYS if way in found])

"""Whether a cell can ever be shut off, decided for all histories [5.10], [5.11]."""

from landways.histories import History
from landways.tables import table_to_shut


class Never:
    """The cell is never shut off: the table of all its views that can come."""

    def __init__(self, table):
        self.table = table


class Shut:
    """The cell can be shut off: a history behind which it is, and the number of steps."""

    def __init__(self, cell, history, steps):
        self.cell = cell
        self.history = history
        self.steps = steps


class Nobody:
    """No cell is ever shut off: the tables of all cells."""

    def __init__(self, tables):
        self.tables = tables


def first_shut_row(table):
    """The first row in whose view the cell is shut off, or None; no other such row is nearer."""
    for row in table.rows:
        if not row[0].is_open():
            return row
    return None


def verdict_behind(history, cell, counted=None):
    """Whether the cell can be shut off by counted deeds behind the history."""
    # Without such a view the table is that of all views.
    table = table_to_shut(history, cell, counted)
    row = first_shut_row(table)
    if row is None:
        return Never(table)
    return Shut(cell, table.history_of(row[0]), row[1])


def verdict_of(land, custom, cell, counted=None):
    """Whether the cell can be shut off by counted deeds from the start."""
    return verdict_behind(History(land, custom), cell, counted)


def is_never(land, custom, cell, counted=None):
    """Whether the cell is never shut off."""
    return isinstance(verdict_of(land, custom, cell, counted), Never)


def anybody_behind(history, counted=None):
    """Whether any cell can be shut off by counted deeds behind the history, and which in the fewest steps."""
    told = [verdict_behind(history, cell, counted) for cell in range(history.land.cells)]
    shut = [verdict for verdict in told if isinstance(verdict, Shut)]
    if not shut:
        return Nobody(tuple([verdict.table for verdict in told]))
    # Of equal ones min returns the first, which is that of the least cell.
    return min(shut, key=lambda verdict: verdict.steps)


def anybody(land, custom, counted=None):
    """Whether any cell can be shut off by counted deeds from the start, and which in the fewest steps."""
    return anybody_behind(History(land, custom), counted)


def shuttable(land, custom, counted=None):
    """The cells that can ever be shut off, each by a history of its own, ascending."""
    return tuple([cell for cell in range(land.cells) if not is_never(land, custom, cell, counted)])

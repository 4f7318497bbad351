"""Judges of tables and verdicts [5.12], [5.13]."""

from landways.counted import meant
from landways.deeds import is_counted
from landways.lands import is_cell, is_whole
from landways.listing import plain_steps
from landways.seeing import seen
from landways.steps import Step
from landways.tables import Table, table_to_shut
from landways.verdicts import Never, Nobody, Shut, first_shut_row
from landways.views import View, view_of
from landways.walks import ends_of_steps


def _is_distance(thing):
    """Whether the thing is a whole number from 0."""
    return isinstance(thing, int) and not isinstance(thing, bool) and thing >= 0


def _same_cell(land, told, cell):
    """Whether what is told is this cell; True and False are none."""
    return is_cell(land, told) and told == cell


def _has_form(table, row):
    """Whether the row is a tuple of a view of the table's cell, a distance, an index and a step."""
    if not isinstance(row, tuple) or len(row) != 4:
        return False
    view, distance, before, step = row
    if not isinstance(view, View) or view.land != table.land or not _same_cell(table.land, table.cell, view.cell):
        return False
    if not _is_distance(distance) or not (before is None or is_whole(before, 0, len(table.rows) - 1)):
        return False
    return step is None or isinstance(step, Step)


def _have_form(table):
    """Whether the table has at least one row, and rows of right form only."""
    if not isinstance(table.rows, tuple) or len(table.rows) == 0:
        return False
    return all([_has_form(table, row) for row in table.rows])


def _begins_rightly(table):
    """Whether row 0 is that of the start."""
    view, distance, before, step = table.rows[0]
    start = view_of(table.past.state, table.cell)
    return view == start and distance == 0 and before is None and step is None


def _comes_nearer(table, row):
    """Whether the row names a row whose distance is one less."""
    return row[2] is not None and table.rows[row[2]][1] == row[1] - 1


def _is_step(table, row):
    """Whether the step of the row is a counted plain step from the row before it that leads to its view."""
    view, _, before, step = row
    ahead = table.rows[before][0]
    if step is None or step not in list(plain_steps(table.custom, ahead, table.counted)):
        return False
    return seen(table.custom, ahead, step) == view


def _are_in_order(table):
    """Whether the rows are ordered by distance, then by the number of the view."""
    keys = [(row[1], row[0].number) for row in table.rows]
    return keys == sorted(keys)


def _form_fault(table):
    """The first word that tells what is wrong with the rows as they stand, or None."""
    if not _have_form(table):
        return "rows"
    if not _begins_rightly(table):
        return "start"
    if len(set([view.number for view in table.views])) < len(table.rows):
        return "double"
    if not all([_comes_nearer(table, row) for row in table.rows[1:]]):
        return "before"
    if not all([_is_step(table, row) for row in table.rows[1:]]):
        return "step"
    return None if _are_in_order(table) else "order"


def table_fault(table):
    """The first word that tells what is wrong with the table, or None."""
    word = _form_fault(table)
    if word is not None:
        return word
    distances = {view.number: distance for view, distance, _, _ in table.rows}
    ends = []
    for view, distance, _, _ in table.rows:
        numbers = [number for _, number in ends_of_steps(table.custom, table.counted, view)]
        ends.extend([(distance, number) for number in numbers])
    if [number for _, number in ends if number not in distances]:
        return "closed"
    return "nearer" if [number for distance, number in ends if distances[number] > distance + 1] else None


def _never_fault(history, cell, counted, told):
    """The first word that tells what is wrong with a Never, or None."""
    table = told.table
    if table.past != history or not _same_cell(history.land, table.cell, cell) or table.counted != counted:
        return "asked"
    if table_fault(table) is not None:
        return "table"
    return None if first_shut_row(table) is None else "shut"


def _goes_on(history, longer):
    """Whether the longer history begins with the deeds of the history, on its land under its custom."""
    if longer.land != history.land or longer.custom != history.custom:
        return False
    return longer.deeds[:len(history.deeds)] == history.deeds


def _added_indexes(history, longer):
    """The indexes of the deeds that the longer history has more."""
    return list(range(len(history.deeds), len(longer.deeds)))


def _are_counted(history, longer, counted):
    """Whether each deed that the longer history has more is counted."""
    added = _added_indexes(history, longer)
    return all([is_counted(counted, longer.state_at(index), longer.deeds[index]) for index in added])


def _number_of_changes(history, longer, cell):
    """How many of the deeds that the longer history has more change the cell's view."""
    added = _added_indexes(history, longer)
    return len([index for index in added
                if view_of(longer.state_at(index), cell) != view_of(longer.state_at(index + 1), cell)])


def _shut_fault(history, cell, counted, told):
    """The first word that tells what is wrong with a Shut, or None."""
    if not _same_cell(history.land, told.cell, cell) or not _goes_on(history, told.history):
        return "asked"
    if not _are_counted(history, told.history, counted):
        return "counted"
    if told.history.state.is_open(cell):
        return "open"
    # The cell is shut off at the end of a counted history, so that its table has such a row.
    danger = first_shut_row(table_to_shut(history, cell, counted))[1]
    if not _is_distance(told.steps) or told.steps != danger:
        return "steps"
    return None if _number_of_changes(history, told.history, cell) == danger else "steps"


def verdict_fault(history, cell, counted, told):
    """The first word that tells what is wrong with a verdict about the cell behind the history, or None."""
    if isinstance(told, Never):
        return _never_fault(history, cell, meant(counted), told)
    if isinstance(told, Shut):
        return _shut_fault(history, cell, meant(counted), told)
    return "kind"


def _are_tables(history, counted, tables):
    """Whether these are right tables of all cells in order, in none of which a cell is shut off."""
    if not isinstance(tables, tuple) or len(tables) != history.land.cells:
        return False
    if not all([isinstance(table, Table) for table in tables]):
        return False
    return all([verdict_fault(history, cell, counted, Never(table)) is None for cell, table in enumerate(tables)])


def _has_fewest(history, counted, told):
    """Whether no other cell can be shut off in fewer steps than told, and no lesser one in as many."""
    for cell in range(history.land.cells):
        row = first_shut_row(table_to_shut(history, cell, counted))
        if row is not None and (row[1], cell) < (told.steps, told.cell):
            return False
    return True


def anybody_fault(history, counted, told):
    """The first word that tells what is wrong with what is told of all cells behind the history, or None."""
    if isinstance(told, Nobody):
        return None if _are_tables(history, counted, told.tables) else "tables"
    if not isinstance(told, Shut):
        return "kind"
    if not is_cell(history.land, told.cell):
        return "cell"
    word = verdict_fault(history, told.cell, counted, told)
    if word is not None:
        return word
    return None if _has_fewest(history, meant(counted), told) else "fewest"

"""Whether two customs are alike on a land, for all histories [8.5]."""

from landways.counted import meant
from landways.lands import is_cell
from landways.twinruns import TwinRun
from landways.twintables import TwinTable, check_width, twin_leaving, twin_table
from landways.twinviews import TwinView, check_measure, twin_start


class Alike:
    """The customs are alike: the tables of all cells, in which no twin view differs."""

    def __init__(self, tables):
        self.tables = tables


class Unlike:
    """The customs are unlike: a run behind whose last deed the twin view of the cell differs first."""

    def __init__(self, run, cell):
        self.run = run
        self.cell = cell


def first_unlike(run, measure):
    """The Unlike of a run in which some cell comes to differ: as far as the first deed behind which one does."""
    short = run.until(run.differs_at(measure))
    return Unlike(short, short.differing(measure)[0])


def compare_customs(land, one, other, counted=None, *, measure="standing"):
    """Whether a twin view of any cell ever differs in a counted run under the two customs."""
    check_width(land)
    check_measure(measure)
    tables = []
    for cell in range(land.cells):
        table = twin_table(land, one, other, cell, counted)
        for twin, _, _, _ in table.rows:
            if twin.differs(measure):
                return first_unlike(table.run_of(twin), measure)
        tables.append(table)
    return Alike(tuple(tables))


def are_alike(land, one, other, counted=None, *, measure="standing"):
    """Whether the two customs are alike on the land."""
    return isinstance(compare_customs(land, one, other, counted, measure=measure), Alike)


def _is_table_of(land, one, other, counted, cell, table):
    """Whether the thing is a twin table of the land, the customs, the counted deeds and the cell that are asked."""
    if not isinstance(table, TwinTable) or table.land != land or table.one != one or table.other != other:
        return False
    if not is_cell(land, table.cell) or table.cell != cell or table.counted != counted:
        return False
    told = [row[0] for row in table.rows]
    if not all([isinstance(twin, TwinView) for twin in told]):
        return False
    return all([twin.land == land and twin.cell == cell for twin in told])


def _table_fault(land, measure, table):
    """The first word that tells why the table shows nothing, or None."""
    start = twin_start(land, table.cell)
    if start not in table:
        return "start"
    if [row for row in table.rows if row[0].differs(measure)]:
        return "differs"
    return None if twin_leaving(table) is None else "closed"


def _tables_fault(land, one, other, counted, measure, tables):
    """The first word that tells what is wrong with the tables of an Alike, or None."""
    if not isinstance(tables, tuple) or len(tables) != land.cells:
        return "tables"
    if not all([_is_table_of(land, one, other, counted, cell, table) for cell, table in enumerate(tables)]):
        return "tables"
    for table in tables:
        word = _table_fault(land, measure, table)
        if word is not None:
            return word
    return None


def _run_fault(land, one, other, counted, measure, told):
    """The first word that tells what is wrong with an Unlike, or None."""
    run = told.run
    if not isinstance(run, TwinRun) or run.land != land or run.one != one or run.other != other:
        return "run"
    if not run.is_counted(counted):
        return "counted"
    first = run.differs_at(measure)
    if len(run) == 0 or (first is not None and first < len(run)):
        return "ahead"
    return None if is_cell(land, told.cell) and told.cell in run.differing(measure) else "last"


def alike_fault(land, one, other, counted, measure, told):
    """The first word that tells what is wrong with what is told of two customs, or None."""
    check_width(land)
    check_measure(measure)
    if isinstance(told, Alike):
        return _tables_fault(land, one, other, meant(counted), measure, told.tables)
    if isinstance(told, Unlike):
        return _run_fault(land, one, other, meant(counted), measure, told)
    return "kind"

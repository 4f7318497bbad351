"""Whether one custom is kinder than another on a land, for all histories [8.6]."""

from landways.twintables import twin_table


class Kinder:
    """The other custom is kinder: the tables of all cells, in which no twin view has a surplus."""

    def __init__(self, tables):
        self.tables = tables


class Unkind:
    """It is not: a run behind whose last deed the cell first passes over a cell by the first custom alone."""

    def __init__(self, run, cell, over):
        self.run = run
        self.cell = cell
        self.over = over


def _first_unkind(run):
    """The Unkind of a run behind which some cell has a surplus: as far as the first deed behind which one has."""
    for many in range(len(run) + 1):
        short = run.until(many)
        for cell in range(run.land.cells):
            surplus = short.twin(cell).surplus
            if surplus:
                return Unkind(short, cell, surplus[0])
    return None


def compare_kindness(land, one, other, counted=None):
    """Whether each cell passes by the other custom, in every counted run, over all that it passes by the one."""
    tables = []
    for cell in range(land.cells):
        table = twin_table(land, one, other, cell, counted)
        for twin, _, _, _ in table.rows:
            if twin.surplus:
                return _first_unkind(table.run_of(twin))
        tables.append(table)
    return Kinder(tuple(tables))


def is_kinder(land, one, other, counted=None):
    """Whether the other custom is kinder than the one on the land."""
    return isinstance(compare_kindness(land, one, other, counted), Kinder)

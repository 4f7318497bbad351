"""Tables of all twin views that counted runs under two customs bring about [8.4]."""

from landways.counted import meant
from landways.errors import NoTwin, TooWide
from landways.gathering import stepped_history
from landways.histories import History
from landways.seeing import behind_plan
from landways.steps import step_by_plan
from landways.twinruns import TwinRun
from landways.twinviews import TwinView, twin_plans, twin_start
from landways.views import View

TWIN_CELLS = 3


def check_width(land):
    """Refuse a land that is too wide for the comparing of customs."""
    if land.cells > TWIN_CELLS:
        raise TooWide("cells")


def _by_number(views):
    """The views, of one cell, each once, ascending by number."""
    found = {view.number: view for view in views}
    return tuple([found[number] for number in sorted(found)])


class TwinTable:
    """The twin views of a cell that counted runs bring about, each with a step that leads to it."""

    def __init__(self, land, one, other, cell, counted, rows):
        self.land = land
        self.one = one
        self.other = other
        self.cell = cell
        self.counted = counted
        self.rows = rows

    def __len__(self):
        return len(self.rows)

    def __iter__(self):
        return iter(self.rows)

    def __contains__(self, twin):
        return isinstance(twin, TwinView) and twin in [row[0] for row in self.rows]

    def _place(self, twin):
        """The index of the row of the twin view."""
        if twin not in self:
            raise NoTwin(twin)
        return [row[0] for row in self.rows].index(twin)

    def distance(self, twin):
        """The least number of steps that lead to the twin view from the start."""
        return self.rows[self._place(twin)][1]

    def run_of(self, twin):
        """A counted run behind which the cell has this twin view."""
        _, _, before, step = self.rows[self._place(twin)]
        steps = []
        while before is not None:
            steps = [step] + steps
            _, _, before, step = self.rows[before]
        # The deeds that bring a step hang on the hands alone, which are the same under both customs.
        history = stepped_history(History(self.land, self.one), self.cell, steps)
        return TwinRun(self.land, self.one, self.other, history.deeds)

    def firsts(self):
        """The views by the first custom, each once, ascending by number."""
        return _by_number([row[0].one for row in self.rows])

    def seconds(self):
        """The views by the second custom, each once, ascending by number."""
        return _by_number([row[0].other for row in self.rows])


def _remembered(cache, custom, view, plan):
    """The view behind a step of this plan, worked out once for each view and plan."""
    key = (view.number, plan)
    if key not in cache:
        own, row = behind_plan(custom, view, plan)
        cache[key] = View(view.land, view.cell, own, row)
    return cache[key]


def _ends_of_plans(pair, counted, twin, caches):
    """For each counted step of the twin view, in order, its plan and the two views behind it."""
    rows = []
    for plan in twin_plans(pair[0], pair[1], twin, counted):
        first = _remembered(caches[0], pair[0], twin.one, plan)
        rows.append((plan, first, _remembered(caches[1], pair[1], twin.other, plan)))
    return rows


def _new_rows(pair, counted, rows, begin, known, caches):
    """The rows one step further than the rows from this index on, in order; what is found becomes known."""
    found = {}
    for index in range(begin, len(rows)):
        twin, distance, _, _ = rows[index]
        for plan, first, second in _ends_of_plans(pair, counted, twin, caches):
            key = (first.number, second.number)
            if key not in known:
                known[key] = True
                found[key] = (TwinView(first, second), distance + 1, index, step_by_plan(*plan))
    return [found[key] for key in sorted(found)]


def twin_table(land, one, other, cell, counted=None):
    """The table of all twin views of the cell that counted runs under the two customs bring about."""
    check_width(land)
    truth = meant(counted)
    start = twin_start(land, cell)
    rows = [(start, 0, None, None)]
    known = {start.numbers: True}
    caches = ({}, {})
    done = 0
    while done < len(rows):
        further = _new_rows((one, other), truth, rows, done, known, caches)
        done = len(rows)
        rows = rows + further
    return TwinTable(land, one, other, cell, truth, tuple(rows))


def twin_leaving(table):
    """The first twin view and step of the table that lead out of it, or None."""
    known = {row[0].numbers: True for row in table.rows}
    caches = ({}, {})
    for twin, _, _, _ in table.rows:
        for plan, first, second in _ends_of_plans((table.one, table.other), table.counted, twin, caches):
            if (first.number, second.number) not in known:
                return (twin, step_by_plan(*plan))
    return None

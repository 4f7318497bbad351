"""Twin views: what a land looks like from one cell under each of two customs [8.1], [8.2]."""

from landways.errors import BadMeasure, BadTwin
from landways.listing import free_cells, mortal_rights, plans_over
from landways.seeing import see_step
from landways.steps import step_by_plan
from landways.views import View, start_view

MEASURES = ("standing", "passing", "open")


def check_measure(measure):
    """Refuse what is no measure."""
    if measure not in MEASURES:
        raise BadMeasure(measure)


class TwinView:
    """Two views of one cell with the same own cells."""

    def __init__(self, one, other):
        if not isinstance(one, View) or not isinstance(other, View):
            raise BadTwin("views")
        if one.land != other.land:
            raise BadTwin("land")
        if one.cell != other.cell:
            raise BadTwin("cell")
        if one.own != other.own:
            raise BadTwin("own")
        self.one = one
        self.other = other
        self.land = one.land
        self.cell = one.cell
        self.own = one.own
        self.numbers = (one.number, other.number)

    def __eq__(self, other):
        return isinstance(other, TwinView) and self.one == other.one and self.other == other.other

    @property
    def surplus(self):
        """The cells over which the cell passes in the first view alone, ascending."""
        return tuple([b for b in self.one.rights if b not in self.other.rights])

    def differs(self, measure):
        """Whether the two views differ by the measure."""
        check_measure(measure)
        if measure == "standing":
            return self.one != self.other
        if measure == "passing":
            return self.one.rights != self.other.rights
        return self.one.is_open() != self.other.is_open()

    def turned(self):
        """The twin view with the two views exchanged."""
        return TwinView(self.other, self.one)


def twin_start(land, cell):
    """The start view of the cell twice."""
    return TwinView(start_view(land, cell), start_view(land, cell))


def twin_seen(one, other, twin, step):
    """The twin view behind the step, by the one custom and by the other."""
    return TwinView(see_step(one, twin.one, step), see_step(other, twin.other, step))


def _in_either(first, second):
    """The cells that are in one of the lots, or in both, ascending."""
    return tuple(sorted(set(first + second)))


def twin_plans(one, other, twin, counted):
    """The plans (kind, cells, others) of all counted steps that lead to another twin view, in order."""
    mortal = _in_either(mortal_rights(one, twin.one), mortal_rights(other, twin.other))
    free = _in_either(free_cells(twin.one), free_cells(twin.other))
    rights = _in_either(twin.one.rights, twin.other.rights)
    return plans_over(twin.one, mortal, free, rights, counted)


def twin_steps(one, other, twin, counted):
    """Yield all counted steps that lead to another twin view, in order."""
    for kind, cells, others in twin_plans(one, other, twin, counted):
        yield step_by_plan(kind, cells, others)

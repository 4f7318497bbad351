"""Joint views: what a land looks like from two cells at once [7.5]."""

from landways.errors import BadJoint
from landways.lands import check_cells
from landways.states import start_state
from landways.views import View, all_views, view_of


def _are_lots_of_two(first, second):
    """Whether the own lots of two cells are one and the same lot, or have no common cell."""
    return first.own == second.own or not [b for b in first.own if b in second.own]


class JointView:
    """The views of two different cells of one land."""

    def __init__(self, first, second):
        if not isinstance(first, View) or not isinstance(second, View):
            raise BadJoint("views")
        if first.land != second.land:
            raise BadJoint("land")
        if first.cell == second.cell:
            raise BadJoint("cells")
        if not _are_lots_of_two(first, second):
            raise BadJoint("own")
        self.first = first
        self.second = second
        self.land = first.land
        self.cells = (first.cell, second.cell)

    def __eq__(self, other):
        return isinstance(other, JointView) and self.first == other.first and self.second == other.second

    @property
    def alike(self):
        """Whether the two cells are in one hand."""
        return self.second.cell in self.first.own

    @property
    def beyond(self):
        """The cells in neither own lot, ascending."""
        return tuple([b for b in self.first.outside if b in self.second.outside])

    @property
    def both_shut(self):
        """Whether both cells are shut off."""
        return not self.first.is_open() and not self.second.is_open()

    @property
    def one_shut(self):
        """Whether the first cell is shut off and the second one is open."""
        return not self.first.is_open() and self.second.is_open()

    @property
    def crossed(self):
        """Whether each of the two has an awake or needed right over the other one."""
        return self.second.cell in self.first.rights and self.first.cell in self.second.rights

    @property
    def needs(self):
        """Whether each of the two has a needed right over the other one."""
        return self.second.cell in self.first.needed and self.first.cell in self.second.needed

    @property
    def doubled(self):
        """The cells of beyond over which both have an awake or needed right, ascending; () in one hand."""
        if self.alike:
            return ()
        return tuple([b for b in self.beyond if b in self.first.rights and b in self.second.rights])

    def turned(self):
        """The joint view with the second cell first."""
        return JointView(self.second, self.first)


def check_two(land, first, second):
    """Refuse what is no cell, then two that are one cell."""
    check_cells(land, first, second)
    if first == second:
        raise BadJoint("cells")


def joint_view(state, first, second):
    """The joint view of two cells in the state."""
    check_two(state.land, first, second)
    return JointView(view_of(state, first), view_of(state, second))


def start_joint(land, first, second):
    """The joint view of two cells in the start state."""
    return joint_view(start_state(land), first, second)


def all_joint_views(land, first, second):
    """Yield all joint views of two cells, by the number of the first view, then of the second one."""
    check_two(land, first, second)
    views = list(all_views(land, second))
    for one in all_views(land, first):
        for other in views:
            if _are_lots_of_two(one, other):
                yield JointView(one, other)

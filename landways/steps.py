"""Steps: what one deed can do to one view [4.4]."""

from landways.errors import BadStep
from landways.lands import MOST_CELLS, are_cells


def own_after(own, kind, cells, others):
    """The own cells behind a step without a fault."""
    if kind == "leave":
        return tuple([b for b in own if b not in cells])
    if kind == "come":
        return tuple(sorted([*own, *cells]))
    if kind == "go":
        return tuple(sorted([*cells, *others]))
    return own


def _check_lots(kind, cells, others):
    """Refuse what are no two lots for a step of this kind."""
    if not are_cells(MOST_CELLS, cells, 0):
        raise BadStep("cells")
    if not are_cells(MOST_CELLS, others, 0):
        raise BadStep("others")
    if len(cells) == 0 and (kind != "leave" or len(others) == 0):
        raise BadStep("empty")
    if [b for b in others if b in cells]:
        raise BadStep("both")


class Step:
    """The base of all steps: a kind and two lots."""

    def __init__(self, kind, cells, others=()):
        _check_lots(kind, cells, others)
        self.kind = kind
        self.cells = tuple(sorted(cells))
        self.others = tuple(sorted(others))

    def __eq__(self, other):
        return (isinstance(other, Step) and self.kind == other.kind
                and self.cells == other.cells and self.others == other.others)

    def own_behind(self, view):
        """The own cells behind the step."""
        return own_after(view.own, self.kind, self.cells, self.others)


class Leave(Step):
    """Own cells go to another hand; cells outside move and are not told with the cell."""

    def __init__(self, cells, untold=()):
        super().__init__("leave", cells, untold)

    def __eq__(self, other):
        return isinstance(other, Leave) and self.cells == other.cells and self.others == other.others

    def own_behind(self, view):
        """The own cells that stay."""
        return own_after(view.own, "leave", self.cells, self.others)


class Come(Step):
    """Cells outside come into the cell's hand."""

    def __init__(self, cells):
        super().__init__("come", cells)

    def __eq__(self, other):
        return isinstance(other, Come) and self.cells == other.cells

    def own_behind(self, view):
        """The own cells and those that come."""
        return own_after(view.own, "come", self.cells, ())


class Go(Step):
    """The cell and own cells go to another hand, in which other cells lie then."""

    def __init__(self, cells, held=()):
        super().__init__("go", cells, held)

    def __eq__(self, other):
        return isinstance(other, Go) and self.cells == other.cells and self.others == other.others

    def own_behind(self, view):
        """The cells that go and those that the new hand holds besides."""
        return own_after(view.own, "go", self.cells, self.others)


class Grant(Step):
    """The cell is granted rights over cells outside."""

    def __init__(self, cells):
        super().__init__("grant", cells)

    def __eq__(self, other):
        return isinstance(other, Grant) and self.cells == other.cells

    def own_behind(self, view):
        """The own cells."""
        return own_after(view.own, "grant", self.cells, ())


class Give(Step):
    """The cell gives up rights over cells outside."""

    def __init__(self, cells):
        super().__init__("give", cells)

    def __eq__(self, other):
        return isinstance(other, Give) and self.cells == other.cells

    def own_behind(self, view):
        """The own cells."""
        return own_after(view.own, "give", self.cells, ())


def step_by_plan(kind, cells, others):
    """The step of this kind with these lots."""
    if kind == "leave":
        return Leave(cells, others)
    if kind == "come":
        return Come(cells)
    if kind == "go":
        return Go(cells, others)
    if kind == "grant":
        return Grant(cells)
    return Give(cells)


def _are_right_cells(view, step):
    """Whether the cells of the step lie where a step of its kind has them."""
    if step.kind == "leave":
        return all([b in view.own and b != view.cell for b in step.cells])
    if step.kind == "go":
        return view.cell in step.cells and all([b in view.own for b in step.cells])
    return all([b in view.outside for b in step.cells])


def step_fault(view, step):
    """The first word that tells why the step cannot be done from the view, or None."""
    if not isinstance(step, Step):
        return "step"
    if not _are_right_cells(view, step):
        return "cells"
    return None if all([b in view.outside for b in step.others]) else "others"


def check_step(view, step):
    """Refuse a step that cannot be done from the view."""
    word = step_fault(view, step)
    if word is not None:
        raise BadStep(word)

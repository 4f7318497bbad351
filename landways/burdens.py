"""Questions about two cells, decided for all histories, and double burdens [7.9], [7.10]."""

from landways.errors import BadQuestion, TooWide
from landways.histories import History
from landways.jointtables import JOINT_CELLS, joint_table, joint_table_behind
from landways.lands import check_cells

QUESTIONS = ("both", "one", "crossed", "needs", "double")


class NeverMet:
    """The question is never met: the joint table in which no joint view meets it."""

    def __init__(self, question, told):
        self.question = question
        self.told = told


class Met:
    """The question can be met: a history behind which it is, and the number of joint steps."""

    def __init__(self, question, history, steps):
        self.question = question
        self.history = history
        self.steps = steps


def _check_question(question):
    """Refuse what is no question."""
    if question not in QUESTIONS:
        raise BadQuestion(question)


def _meets(joint, question):
    """Whether the joint view meets the question."""
    if question == "both":
        return joint.both_shut
    if question == "one":
        return joint.one_shut
    if question == "crossed":
        return joint.crossed
    if question == "needs":
        return joint.needs
    return len(joint.doubled) > 0


def meets(joint, question):
    """Whether the joint view meets the question."""
    _check_question(question)
    return _meets(joint, question)


def meet_behind(history, first, second, question, counted=None):
    """Whether counted deeds behind the history ever meet the question."""
    table = joint_table_behind(history, first, second, counted)
    _check_question(question)
    # The rows go by distance, so that the first one that meets the question is a nearest one.
    for joint, distance, _, _ in table.rows:
        if _meets(joint, question):
            return Met(question, table.history_of(joint), distance)
    return NeverMet(question, table)


def meet(land, custom, first, second, question, counted=None):
    """Whether counted deeds from the start ever meet the question."""
    return meet_behind(History(land, custom), first, second, question, counted)


def _laid_by(land, custom, cell, one, other, counted):
    """The history and the steps by which two cells lay a double burden on the cell, or None."""
    table = joint_table(land, custom, one, other, counted)
    for joint, distance, _, _ in table.rows:
        if cell in joint.doubled:
            return (table.history_of(joint), distance)
    return None


def double_burden(land, custom, cell, counted=None):
    """The first two cells that can lay a double burden on the cell, with a history and its steps, or None."""
    check_cells(land, cell)
    if land.cells > JOINT_CELLS:
        raise TooWide("cells")
    for one, other in land.couples:
        if one < other and cell not in (one, other):
            found = _laid_by(land, custom, cell, one, other, counted)
            if found is not None:
                return (one, other, found[0], found[1])
    return None


def doubly_burdened(land, custom, counted=None):
    """The cells that can ever bear a double burden, ascending."""
    if land.cells > JOINT_CELLS:
        raise TooWide("cells")
    return tuple([cell for cell in range(land.cells) if double_burden(land, custom, cell, counted) is not None])

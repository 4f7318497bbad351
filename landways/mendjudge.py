"""Judges of judgments and of mends [10.5], [10.6]."""

from landways.burdens import Met, NeverMet, meets
from landways.changes import is_ascending
from landways.everyland import EveryLand, on_all_lands, probe_land
from landways.histories import History
from landways.joint import joint_view
from landways.jointtables import joint_table, joint_table_fault
from landways.lands import is_cell, is_whole
from landways.mends import Mends, choices_without_lesser
from landways.tablejudge import table_fault, verdict_fault
from landways.tables import Table, view_table
from landways.verdicts import Never, Shut
from landways.wishes import Broken, Kept, Needed, first_needed


def _same_cells(land, told, cells):
    """Whether what is told are these cells; True and False are none."""
    return told == cells and all([is_cell(land, cell) for cell in told])


def _is_history_of(told, land, custom, counted):
    """Whether the history is one of the land under the custom, of counted deeds only."""
    return told.land == land and told.custom == custom and told.is_counted(counted)


def _is_never_met(wish, custom, cells, paper):
    """Whether the NeverMet shows that the two cells never lay a double burden on a cell."""
    table = paper.told
    if paper.question != "double" or table.past != History(wish.land, custom):
        return False
    if not _same_cells(wish.land, table.cells, cells) or table.counted != wish.counted:
        return False
    if joint_table_fault(table) is not None:
        return False
    return not [joint for joint in table.joints if meets(joint, "double")]


def _least_distance(table):
    """The least distance of a joint view of the table that bears a double burden, or None."""
    for joint, distance, _, _ in table.rows:
        if meets(joint, "double"):
            return distance
    return None


def _number_of_changes(history, cells):
    """How many deeds of the history change the joint view of the two cells."""
    joints = [joint_view(state, cells[0], cells[1]) for state in history.states()]
    return len([k for k in range(len(history)) if joints[k] != joints[k + 1]])


def _is_met(wish, custom, cells, paper):
    """Whether the Met shows how the two cells lay a double burden on a cell, in the fewest steps."""
    history = paper.history
    if paper.question != "double" or not _is_history_of(history, wish.land, custom, wish.counted):
        return False
    if not meets(joint_view(history.state, cells[0], cells[1]), "double"):
        return False
    least = _least_distance(joint_table(wish.land, custom, cells[0], cells[1], wish.counted))
    if not is_whole(paper.steps, least, least) or _number_of_changes(history, cells) != least:
        return False
    # A way through a joint table has at most two deeds for each step.
    return len(history) <= 2 * least


def _is_free_table(wish, custom, cell, paper):
    """Whether the table shows that no right of the cell is ever needed."""
    if paper.past != History(wish.land, custom) or paper.counted != wish.counted:
        return False
    if not _same_cells(wish.land, (paper.cell,), (cell,)):
        return False
    return table_fault(paper) is None and first_needed(paper) is None


def _is_needed(wish, custom, cell, paper):
    """Whether the Needed shows a right of the cell that is needed, over the least cell that can be so."""
    found = first_needed(view_table(wish.land, custom, cell, wish.counted))
    if found is None or not is_whole(paper.other, found[0], found[0]):
        return False
    if not _is_history_of(paper.history, wish.land, custom, wish.counted):
        return False
    return paper.history.state.standing(cell, paper.other) == "needed"


def _number_of_sort(every, sort):
    """The number that an EveryLand has for the sort."""
    return {"far": every.far, "loose": every.loose, "bound": every.bound}[sort]


def _is_number(told, number):
    """Whether what is told is this number, or None as this is; True is no 1."""
    return told is None if number is None else is_whole(told, number, number)


def _is_every_land(wish, custom, sort, paper):
    """Whether the EveryLand shows that cells of the sort are never shut off."""
    every = on_all_lands(custom, wish.counted)
    if paper != every or _number_of_sort(every, sort) is not None:
        return False
    return (_is_number(paper.far, every.far) and _is_number(paper.loose, every.loose)
            and _is_number(paper.bound, every.bound))


def _is_shutting(wish, custom, sort, paper):
    """Whether the history shuts cell 0 of the probe land off in the fewest deeds."""
    if not _is_history_of(paper, probe_land(sort), custom, wish.counted):
        return False
    fewest = _number_of_sort(on_all_lands(custom, wish.counted), sort)
    return len(paper) == fewest and not paper.state.is_open(0)


def _has_kind(word, paper, kept):
    """Whether the paper has the class that a thing of this word asks for."""
    if word == "shut":
        return isinstance(paper, Never) if kept else isinstance(paper, Shut)
    if word == "double":
        return isinstance(paper, NeverMet) if kept else isinstance(paper, Met)
    if word == "needed":
        return isinstance(paper, Table) if kept else isinstance(paper, Needed)
    return isinstance(paper, EveryLand) if kept else isinstance(paper, History)


def _shows(wish, custom, thing, paper, kept):
    """Whether a paper of the right class is one that is let for this thing."""
    word, cells = thing
    if word == "shut":
        return verdict_fault(History(wish.land, custom), cells[0], wish.counted, paper) is None
    if word == "double":
        return _is_never_met(wish, custom, cells, paper) if kept else _is_met(wish, custom, cells, paper)
    if word == "needed":
        return _is_free_table(wish, custom, cells[0], paper) if kept else _is_needed(wish, custom, cells[0], paper)
    return _is_every_land(wish, custom, word, paper) if kept else _is_shutting(wish, custom, word, paper)


def _papers_fault(wish, custom, things, papers, kept):
    """The first word that tells what is wrong with the papers, paper by paper, or None."""
    for thing, paper in zip(things, papers):
        if not _has_kind(thing[0], paper, kept):
            return "kind"
        if not _shows(wish, custom, thing, paper, kept):
            return "paper"
    return None


def _is_thing(wish, told):
    """Whether what is told is one of the things of the wish; True and False are no cells."""
    if told not in wish.things():
        return False
    return not [cell for cell in told[1] if isinstance(cell, bool)]


def judgment_fault(wish, custom, told):
    """The first word that tells what is wrong with a judgment of the wish for the custom, or None."""
    if not isinstance(told, (Kept, Broken)):
        return "class"
    if told.wish != wish or told.custom != custom:
        return "asked"
    if isinstance(told, Broken):
        if not _is_thing(wish, told.thing):
            return "thing"
        return _papers_fault(wish, custom, (told.thing,), (told.paper,), False)
    if len(told.papers) != len(wish.things()):
        return "thing"
    return _papers_fault(wish, custom, wish.things(), told.papers, True)


def are_pairs(thing):
    """Whether the thing is a tuple of tuples of two."""
    return isinstance(thing, tuple) and all([isinstance(row, tuple) and len(row) == 2 for row in thing])


def are_least(choices, many, good, bad):
    """Whether both, each in order, are just those of the choices, or lots, below `many` without a lesser good one."""
    if not all([is_ascending(many, choice) for choice in good + bad]):
        return False
    least = choices_without_lesser(choices, good)
    if good != [choice for choice in least if choice in good]:
        return False
    return bad == [choice for choice in least if choice not in good]


def _mended_fault(custom, pool, wish, choice, told):
    """The word of the judge for what is told of the custom with the changes of the choice, or None."""
    return judgment_fault(wish, pool.custom_by(custom, choice), told)


def mends_fault(custom, pool, wish, mends):
    """The first word that tells what is wrong with the mends, or None."""
    if not isinstance(mends, Mends) or not are_pairs(mends.good) or not are_pairs(mends.bad):
        return "rows"
    good = [row[0] for row in mends.good]
    bad = [row[0] for row in mends.bad]
    if not are_least(list(pool.lawful_choices()), len(pool), good, bad):
        return "choices"
    for choice, told in mends.good:
        if not isinstance(told, Kept) or _mended_fault(custom, pool, wish, choice, told) is not None:
            return "good"
    for choice, told in mends.bad:
        if not isinstance(told, Broken) or _mended_fault(custom, pool, wish, choice, told) is not None:
            return "bad"
    return None

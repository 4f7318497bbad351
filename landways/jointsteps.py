"""What one deed is for two cells at once, and the deeds that do it [7.6]."""

from landways.counted import Counted, meant
from landways.errors import NoJointStep
from landways.gathering import fresh_hand, gift_deeds, goes_told
from landways.joint import JointView, check_two, joint_view
from landways.listing import free_cells, mortal_rights, plain_step
from landways.lots import all_lots
from landways.playing import played
from landways.seeing import behind_plan, plan_of, step_of
from landways.steps import Step, step_by_plan
from landways.views import View, view_of

# A joint plan is (plans, word, cells, others): the plan of each of the two, None where it sees nothing; and how a
# deed does it. The cells go to a hand of their own, the couples of others untold; or the cells, of one hand, are
# granted or give up rights over the others.


def _moving_options(custom, view, moved, counted):
    """The plans that the cell may see as just these cells go to a hand of their own, each with its untold couples."""
    gone = tuple([b for b in moved if b in view.own])
    rest = tuple([b for b in moved if b not in view.own])
    if view.cell in gone and gone != view.own:
        return [(("go", gone, rest), ())]
    if view.cell in gone:
        return [(("come", rest, ()) if rest else None, ())]
    mortal = [b for b in mortal_rights(custom, view) if b in rest] if counted.untold else []
    options = []
    for lot in all_lots(mortal):
        plan = ("leave", gone, lot) if gone or lot else None
        options.append((plan, tuple([(view.cell, b) for b in lot])))
    return options


def _has_idle_cell(joint, moved, untold):
    """Whether a cell beyond moves although neither cell sees it."""
    if joint.first.cell in moved or joint.second.cell in moved:
        return False
    seen_cells = [b for _, b in untold]
    return len([b for b in moved if b in joint.beyond and b not in seen_cells]) > 0


def _moving_plans(custom, joint, counted):
    """The joint plans of the deeds that go."""
    plans = []
    for moved in all_lots(list(range(joint.land.cells))):
        for one, untold in _moving_options(custom, joint.first, moved, counted):
            for other, further in _moving_options(custom, joint.second, moved, counted):
                # What is not seen is left at home, so that each pair comes once.
                if (one or other) and not _has_idle_cell(joint, moved, untold + further):
                    plans.append(((one, other), "goes", moved, untold + further))
    return plans


def _gift_lots(view, word):
    """The cells over which a grant, or a giving up, changes a right of the view."""
    return view.rights if word == "gives" else free_cells(view)


def _single_gifts(joint, view, kind, word):
    """For a deed by which the cell of this view alone is granted or gives up rights: its plan and its cells."""
    cells = _gift_lots(view, word)
    near = [b for b in cells if b not in joint.beyond]
    far = [b for b in cells if b in joint.beyond]
    return [((kind, lot, ()), lot) for lot in all_lots(near)[1:] + all_lots(far)[1:]]


def _double_gifts(joint, kind, word):
    """For a deed by which both cells, of one hand, are granted or give up rights: both plans and its cells."""
    ones = _gift_lots(joint.first, word)
    others = _gift_lots(joint.second, word)
    rows = []
    for lot in all_lots(joint.beyond):
        one = tuple([b for b in lot if b in ones])
        other = tuple([b for b in lot if b in others])
        # A cell that neither sees is left out, and so is a lot of which one of them sees nothing.
        if one and other and len([b for b in lot if b not in one and b not in other]) == 0:
            rows.append((((kind, one, ()), (kind, other, ())), lot))
    return rows


def _gift_plans(joint, kind, word):
    """The joint plans of the deeds that grant, or of those that give up."""
    first, second = joint.cells
    plans = [((plan, None), word, (first,), lot) for plan, lot in _single_gifts(joint, joint.first, kind, word)]
    plans = plans + [((None, plan), word, (second,), lot)
                     for plan, lot in _single_gifts(joint, joint.second, kind, word)]
    if joint.alike:
        plans = plans + [(both, word, (first, second), lot) for both, lot in _double_gifts(joint, kind, word)]
    return plans


def joint_plans(custom, joint, counted):
    """All joint plans of the joint view that are counted, each pair once."""
    plans = _moving_plans(custom, joint, counted)
    if counted.grants:
        plans = plans + _gift_plans(joint, "grant", "grant")
    if counted.giving_up:
        plans = plans + _gift_plans(joint, "give", "gives")
    return plans


def _step_by_plan_or_none(plan):
    """The step of this plan, or None."""
    return None if plan is None else step_by_plan(*plan)


def pair_by_plans(plans):
    """The pair of the steps of two plans."""
    return (_step_by_plan_or_none(plans[0]), _step_by_plan_or_none(plans[1]))


def joint_steps(custom, joint, counted=None):
    """Yield all joint steps of the joint view, each once."""
    for plans, _, _, _ in joint_plans(custom, joint, meant(counted)):
        yield pair_by_plans(plans)


def _plans_of_pair(pair):
    """The plans of a pair of steps, or None if it is no such pair."""
    if not isinstance(pair, tuple) or len(pair) != 2:
        return None
    if not all([step is None or isinstance(step, Step) for step in pair]):
        return None
    return tuple([None if step is None else plan_of(step) for step in pair])


def find_plan(custom, joint, counted, pair):
    """The joint plan of the pair, or None if it is no joint step."""
    plans = _plans_of_pair(pair)
    for row in joint_plans(custom, joint, counted):
        if row[0] == plans:
            return row
    return None


def _checked_plan(custom, joint, pair):
    """The joint plan of the pair; a pair that is no joint step is refused."""
    row = find_plan(custom, joint, Counted(True, True, True), pair)
    if row is None:
        raise NoJointStep(pair)
    return row


def view_behind(custom, view, plan):
    """The view behind a step of this plan, or the view itself."""
    if plan is None:
        return view
    own, row = behind_plan(custom, view, plan)
    return View(view.land, view.cell, own, row)


def joint_behind(custom, joint, plans):
    """The joint view behind two plans, which are not checked."""
    return JointView(view_behind(custom, joint.first, plans[0]), view_behind(custom, joint.second, plans[1]))


def joint_seen(custom, joint, pair):
    """The joint view behind the joint step."""
    row = _checked_plan(custom, joint, pair)
    return joint_behind(custom, joint, row[0])


def _step_for(custom, state, cell, deed):
    """The plain step that the deed is for the cell, or None."""
    step = step_of(state, cell, deed)
    return None if step is None else plain_step(custom, view_of(state, cell), step)


def joint_step_of(custom, state, first, second, deed):
    """What the deed is for two cells: the plain step for each of them, or None."""
    check_two(state.land, first, second)
    return (_step_for(custom, state, first, deed), _step_for(custom, state, second, deed))


def plan_deeds(state, row):
    """The deeds, one or two, that do a joint plan from the state."""
    _, word, cells, others = row
    if word == "goes":
        return (goes_told(state.land, cells, fresh_hand(state.hands), others),)
    return gift_deeds(state, word, cells, others)


def joint_deeds(custom, state, first, second, pair):
    """The deeds, one or two, that do the joint step from the state."""
    return plan_deeds(state, _checked_plan(custom, joint_view(state, first, second), pair))


def joint_brought(history, first, second, pair):
    """The history with one or two deeds more, which do the joint step."""
    deeds = joint_deeds(history.custom, history.state, first, second, pair)
    return history.then(*deeds)


def joint_stepped(history, first, second, pairs):
    """The history with the deeds that do the joint steps, one after the other, behind its own."""
    state = history.state
    added = []
    for pair in pairs:
        for deed in joint_deeds(history.custom, state, first, second, pair):
            added.append(deed)
            state = played(history.custom, state, deed)
    return history.then(*added)

"""Tables of all joint views of two cells that can come behind a history [7.7], [7.8]."""

from landways.counted import meant
from landways.errors import BadCell, NoJoint, TooWide
from landways.histories import History
from landways.joint import JointView, check_two, joint_view
from landways.jointsteps import find_plan, joint_behind, joint_plans, joint_stepped, pair_by_plans, view_behind
from landways.lands import is_cell, is_whole

JOINT_CELLS = 3


def _numbers(joint):
    """The numbers of the two views, by which joint views of two cells are told apart and ordered."""
    return (joint.first.number, joint.second.number)


def _distances_within(some, others):
    """Whether each row of some has a row of the others with the same joint view and distance."""
    found = {(_numbers(joint), distance): joint for joint, distance, _, _ in others}
    return all([found.get((_numbers(joint), distance)) == joint for joint, distance, _, _ in some])


class JointTable:
    """The joint views of two cells that can come behind a past, each with a joint step that leads to it."""

    def __init__(self, past, cells, counted, rows):
        self.past = past
        self.cells = cells
        self.counted = counted
        self.rows = rows
        self.joints = tuple([row[0] for row in rows])
        self.land = past.land
        self.custom = past.custom

    def __eq__(self, other):
        return (isinstance(other, JointTable) and self.past == other.past and self.cells == other.cells
                and self.counted == other.counted and _distances_within(self.rows, other.rows)
                and _distances_within(other.rows, self.rows))

    def __len__(self):
        return len(self.rows)

    def __iter__(self):
        return iter(self.joints)

    def __contains__(self, joint):
        return isinstance(joint, JointView) and joint in self.joints

    def _place(self, joint):
        """The index of the row of the joint view."""
        if joint not in self:
            raise NoJoint(joint)
        return self.joints.index(joint)

    def distance(self, joint):
        """The least number of joint steps that lead to the joint view from the start."""
        return self.rows[self._place(joint)][1]

    def history_of(self, joint):
        """A history, on from the past, whose last joint view is this one."""
        _, _, before, pair = self.rows[self._place(joint)]
        pairs = []
        while before is not None:
            pairs = [pair] + pairs
            _, _, before, pair = self.rows[before]
        return joint_stepped(self.past, self.cells[0], self.cells[1], pairs)

    def views_of(self, cell):
        """The views of one of the two cells that the table has, each once, by number."""
        if not is_cell(self.land, cell) or cell not in self.cells:
            raise BadCell(cell)
        views = [joint.first if cell == self.cells[0] else joint.second for joint in self.joints]
        found = {view.number: view for view in views}
        return tuple([found[number] for number in sorted(found)])


def _remembered(cache, custom, view, plan):
    """The view behind a step of this plan, or of none, worked out once for each view and plan."""
    key = (view.cell, view.number, plan)
    if key not in cache:
        cache[key] = view_behind(custom, view, plan)
    return cache[key]


def _ends_of_plans(custom, counted, joint, cache):
    """For each counted joint step its plans and the two views behind it."""
    rows = []
    for plans, _, _, _ in joint_plans(custom, joint, counted):
        first = _remembered(cache, custom, joint.first, plans[0])
        rows.append((plans, first, _remembered(cache, custom, joint.second, plans[1])))
    return rows


def _new_rows(custom, counted, rows, begin, known, cache):
    """The rows one step further than the rows from this index on, in order; what is found becomes known."""
    found = {}
    for index in range(begin, len(rows)):
        joint, distance, _, _ = rows[index]
        for plans, first, second in _ends_of_plans(custom, counted, joint, cache):
            key = (first.number, second.number)
            if key not in known:
                known[key] = True
                found[key] = (JointView(first, second), distance + 1, index, pair_by_plans(plans))
    return [found[key] for key in sorted(found)]


def joint_table_behind(history, first, second, counted=None):
    """The table of all joint views of two cells that can come behind the history."""
    check_two(history.land, first, second)
    if history.land.cells > JOINT_CELLS:
        raise TooWide("cells")
    truth = meant(counted)
    start = joint_view(history.state, first, second)
    rows = [(start, 0, None, None)]
    known = {_numbers(start): True}
    cache = {}
    done = 0
    while done < len(rows):
        further = _new_rows(history.custom, truth, rows, done, known, cache)
        done = len(rows)
        rows = rows + further
    return JointTable(history, (first, second), truth, tuple(rows))


def joint_table(land, custom, first, second, counted=None):
    """The table of all joint views of two cells that can come behind the empty history."""
    return joint_table_behind(History(land, custom), first, second, counted)


def _begins_rightly(told):
    """Whether row 0 is that of the start."""
    joint, distance, before, pair = told.rows[0]
    start = joint_view(told.past.state, told.cells[0], told.cells[1])
    return joint == start and is_whole(distance, 0, 0) and before is None and pair is None


def _stands_twice(told):
    """Whether a joint view stands in two rows."""
    return len([k for k, joint in enumerate(told.joints) if joint in told.joints[:k]]) > 0


def _comes_nearer(told, row):
    """Whether the row names a row whose distance is one less."""
    _, distance, before, _ = row
    return is_whole(before, 0, len(told.rows) - 1) and told.rows[before][1] == distance - 1


def _is_step(told, row):
    """Whether the pair of the row is a counted joint step from the row before it that leads to its joint view."""
    joint, _, before, pair = row
    ahead = told.joints[before]
    found = find_plan(told.custom, ahead, told.counted, pair)
    return found is not None and joint_behind(told.custom, ahead, found[0]) == joint


def _are_in_order(told):
    """Whether the rows are ordered by distance, then by the numbers of the two views."""
    keys = [(row[1], _numbers(row[0])) for row in told.rows]
    return keys == sorted(keys)


def _leading_fault(told):
    """The first word that tells where joint steps lead that they may not, or None."""
    distances = {_numbers(joint): distance for joint, distance, _, _ in told.rows}
    cache = {}
    ends = []
    for joint, distance, _, _ in told.rows:
        steps = _ends_of_plans(told.custom, told.counted, joint, cache)
        ends.extend([(distance, (first.number, second.number)) for _, first, second in steps])
    if [key for _, key in ends if key not in distances]:
        return "closed"
    return "nearer" if [key for distance, key in ends if distances[key] > distance + 1] else None


def joint_table_fault(told):
    """The first word that tells what is wrong with the joint table, or None."""
    if len(told.rows) == 0:
        return "rows"
    if not _begins_rightly(told):
        return "start"
    if _stands_twice(told):
        return "double"
    if not all([_comes_nearer(told, row) for row in told.rows[1:]]):
        return "before"
    if not all([_is_step(told, row) for row in told.rows[1:]]):
        return "step"
    return _leading_fault(told) if _are_in_order(told) else "order"

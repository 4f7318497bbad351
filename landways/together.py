"""What cells can come to at once, for all lands [7.1] to [7.4]."""

from landways.counted import meant
from landways.customs import check_sides
from landways.errors import BadCells
from landways.everyland import probe_land, shutting
from landways.gathering import goes_told
from landways.histories import History
from landways.lands import check_cells, is_lot
from landways.leading import led_by_lot
from landways.twocells import pair_after

# The standings of couples, in the order of the rows of crossed_states.
_STANDINGS = ("none", "awake", "asleep")


def shut_together(land, custom, cells, counted=None):
    """A history, of as few deeds as for one cell, at whose end each of the cells is shut off, or None."""
    if not is_lot(land, cells, 1) or [cell for cell in cells if cell in land.roads]:
        raise BadCells("cells")
    check_sides(custom, "beside")
    history = shutting(probe_land("bound"), custom, 0, counted)
    if history is None:
        return None
    return History(land, custom, [led_by_lot(land, cells, deed) for deed in history.deeds])


def _check_burdens(custom, counted):
    """Refuse a custom by which burdens hang on the land; with grants they never do."""
    if not counted.grants:
        check_sides(custom, "need", "beside")


def burden_on_all_lands(custom, counted=None):
    """Whether on every land each cell can bear the burdens of all other cells at once."""
    truth = meant(counted)
    _check_burdens(custom, truth)
    return truth.grants or "all" in (custom.sold, custom.kept)


def _going_off(land, cells, hand):
    """The deeds by which the cells go one by one, each into a hand of its own, from this hand on."""
    return [goes_told(land, (cell,), hand + k) for k, cell in enumerate(cells)]


def burden_history(land, custom, cell, counted=None):
    """A history at whose end each other cell, in a hand of its own, has an awake right over the cell, or None."""
    check_cells(land, cell)
    if not burden_on_all_lands(custom, counted):
        return None
    others = land.others(cell)
    if meant(counted).grants:
        deeds = [goes_told(land, (cell,), 1), ("grant", others, (cell,))]
    else:
        # The others have the right as the cell goes, or as they go themselves.
        deeds = [goes_told(land, (cell,) if custom.kept == "all" else others, 1)]
    return History(land, custom, deeds + _going_off(land, others[1:], 2))


def _is_crossing(custom, counted):
    """Whether all cells can be crossed with one another."""
    sides = (custom.sold, custom.kept)
    return counted.grants or sides == ("all", "all") or ("all" in sides and custom.joined == "sleep")


def crossed_on_all_lands(custom, counted=None):
    """Whether on every land all cells can be crossed with one another at once."""
    truth = meant(counted)
    _check_burdens(custom, truth)
    return _is_crossing(custom, truth)


def all_crossed(land, custom, counted=None):
    """A history at whose end no two cells are in one hand and every couple is awake, or None."""
    if not crossed_on_all_lands(custom, counted):
        return None
    cells = list(range(land.cells))
    deeds = _going_off(land, cells[:-1], 1)
    if meant(counted).grants:
        return History(land, custom, deeds + [("grant", (a,), (b,)) for a, b in land.couples])
    if custom.sold != custom.kept:
        # One of each two cells has a right now. It sleeps and wakes, while the turned order gives one to the other.
        deeds.append(goes_told(land, cells, land.cells))
        deeds = deeds + _going_off(land, cells[:0:-1], land.cells + 1)
    return History(land, custom, deeds)


def _both_behind(custom, pairs, event, turned):
    """The pairs of a couple and the turned one behind an event of each, or None if they cannot happen."""
    behind = (pair_after(custom, pairs[0], event), pair_after(custom, pairs[1], turned))
    return None if None in behind else behind


def _one_behind(custom, pairs, event):
    """The pairs of a couple and the turned one behind an event of one of them, for each of the two."""
    rows = []
    first = pair_after(custom, pairs[0], event)
    if first is not None:
        rows.append((first, pairs[1]))
    second = pair_after(custom, pairs[1], event)
    if second is not None:
        rows.append((pairs[0], second))
    return rows


def _pairs_behind(custom, counted, pairs):
    """The pairs of a couple and the turned one behind each counted deed that bears on them."""
    rows = [_both_behind(custom, pairs, "sold", "kept"), _both_behind(custom, pairs, "kept", "sold"),
            _both_behind(custom, pairs, "joined", "joined")]
    if counted.untold:
        rows = rows + _one_behind(custom, pairs, "untold")
    if counted.grants:
        rows = rows + _one_behind(custom, pairs, "grant")
    if counted.giving_up:
        rows = rows + _one_behind(custom, pairs, "gives")
    return [row for row in rows if row is not None]


def _crossed_state(pairs):
    """Whether the two cells are in one hand, and the standings of the couple and of the turned one."""
    words = ["none" if pair == "own" else pair for pair in pairs]
    return (pairs[0] in ("own", "asleep"), words[0], words[1])


def crossed_states(custom, counted=None):
    """All (alike, word, other) of a couple and the turned one that can come, in order."""
    check_sides(custom, "need", "beside")
    truth = meant(counted)
    found = [("own", "own")]
    done = 0
    while done < len(found):
        for pairs in _pairs_behind(custom, truth, found[done]):
            if pairs not in found:
                found.append(pairs)
        done += 1
    states = [_crossed_state(pairs) for pairs in found]
    rows = [(alike, word, other) for alike in (True, False) for word in _STANDINGS for other in _STANDINGS]
    return tuple([row for row in rows if row in states])

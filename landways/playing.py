"""What becomes of rights behind a deed, stage by stage [3.3]."""

from landways.deeds import check_deed, couples_leaving, couples_untold, hands_behind, shaped
from landways.reaching import least_lot, opens
from landways.states import RIGHTS, State, passed_cells

# The standings that end as they go on untold, by the word of the clause.
DYING = {"stay": (), "die": ("awake", "needed"), "needed stay": ("awake",)}
JOINED = {"die": "none", "sleep": "asleep"}
# For a grant and its like: the first stage, the standings that it changes, and into which.
GIFTS = {"grant": ("granted", ("none", "needed"), "awake"), "gives": ("given", ("awake", "needed"), "none")}


def _with_word(standings, couples, olds, word):
    """The standings with this word for those of the couples that have one of the old words."""
    rows = [list(row) for row in standings]
    for a, b in couples:
        if rows[a][b] in olds:
            rows[a][b] = word
    return tuple([tuple(row) for row in rows])


def fresh_standing(word):
    """The standing of a right that arises by this word of the clauses sold and kept."""
    return "needed" if word == "need" else "awake"


def cells_over(land, hands, row, a, word, fresh):
    """Over which of the fresh cells a right of the cell arises by this word."""
    if word == "none":
        return ()
    if word == "beside":
        return tuple([b for b in fresh if land.is_neighbour(a, b)])
    if word == "need":
        # An open cell needs nothing: its least lot is empty.
        return least_lot(land, a, passed_cells(hands, row, a), fresh) or ()
    return tuple(fresh)


def _arisen(custom, land, ahead, now, standings):
    """The standings behind the stage "arisen"."""
    for a in range(land.cells):
        # Only cells that move change their hand.
        word = custom.kept if ahead[a] == now[a] else custom.sold
        parted = [b for b in range(land.cells) if ahead[a] == ahead[b] and now[a] != now[b]]
        fresh = [b for b in parted if standings[a][b] == "none"]
        over = [(a, b) for b in cells_over(land, now, standings[a], a, word, fresh)]
        standings = _with_word(standings, over, ("none",), fresh_standing(word))
    return standings


def ended_row(land, hands, row, a):
    """The cell's row of standings without the needed rights without which it is open."""
    left = list(row)
    for b, word in enumerate(row):
        if word == "needed" and opens(land, a, [c for c in passed_cells(hands, left, a) if c != b]):
            left[b] = "none"
    return tuple(left)


def _ended(custom, land, hands, standings):
    """The standings behind the stage "ended"."""
    if custom.ends == "never":
        return standings
    return tuple([ended_row(land, hands, row, a) for a, row in enumerate(standings)])


def _gone(custom, state, deed):
    """The rows of a deed that goes."""
    ahead = state.hands
    now = hands_behind(state, deed)
    rows = [("hands", now, state.standings)]
    standings = _with_word(state.standings, couples_untold(state, deed), DYING[custom.untold], "none")
    rows.append(("untold", now, standings))
    joined = couples_leaving(state.land, now, ahead)
    standings = _with_word(standings, joined, RIGHTS, JOINED[custom.joined])
    rows.append(("joined", now, standings))
    parted = couples_leaving(state.land, ahead, now)
    standings = _with_word(standings, parted, ("asleep",), "awake")
    rows.append(("woken", now, standings))
    standings = _arisen(custom, state.land, ahead, now, standings)
    rows.append(("arisen", now, standings))
    rows.append(("ended", now, _ended(custom, state.land, now, standings)))
    return rows


def _given(custom, state, deed):
    """The rows of a deed that grants or gives up."""
    stage, olds, word = GIFTS[deed[0]]
    couples = [(a, b) for a in deed[1] for b in deed[2]]
    standings = _with_word(state.standings, couples, olds, word)
    ended = _ended(custom, state.land, state.hands, standings)
    return [(stage, state.hands, standings), ("ended", state.hands, ended)]


def _rows(custom, state, deed):
    """The rows of all stages of a deed that can be done, as a list."""
    if deed[0] == "goes":
        return _gone(custom, state, shaped(deed))
    return _given(custom, state, deed)


def stages(custom, state, deed):
    """Yield each stage of the deed in order: its word, and the hands and standings behind it."""
    check_deed(state, deed)
    for row in _rows(custom, state, deed):
        yield row


def played(custom, state, deed):
    """The state behind a deed that can be done, which is not checked."""
    _, hands, standings = _rows(custom, state, deed)[-1]
    return State(state.land, hands, standings)


def after(custom, state, deed):
    """The state behind the deed."""
    check_deed(state, deed)
    return played(custom, state, deed)


def settled_state(custom, state):
    """The state behind the stage "ended" alone."""
    return State(state.land, state.hands, _ended(custom, state.land, state.hands, state.standings))


def is_settled_state(custom, state):
    """Whether the stage "ended" alone leaves the state as it is."""
    return settled_state(custom, state) == state

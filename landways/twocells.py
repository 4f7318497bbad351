"""Pairs of hands and standing, and the events that lead from one to the other [6.6], [6.7]."""

from landways.counted import meant
from landways.customs import check_sides
from landways.errors import BadCell, BadEvent, BadPair
from landways.everyland import probe_land
from landways.histories import History
from landways.lands import check_cells, is_sequence

PAIRS = ("own", "asleep", "none", "awake", "needed")
EVENTS = ("sold", "kept", "joined", "untold", "grant", "gives")
_TOGETHER = ("own", "asleep")
# What becomes of a couple that is parted, by the word of the clause, where its cells are neighbours.
_PARTED = {"none": "none", "all": "awake", "beside": "awake", "need": "needed"}


def pair_of(state, a, b):
    """The pair of the couple in the state."""
    check_cells(state.land, a, b)
    if a == b:
        raise BadCell(b)
    standing = state.standings[a][b]
    return "own" if standing == "none" and state.hands[a] == state.hands[b] else standing


def _check_pair(pair):
    """Refuse what is no pair."""
    if pair not in PAIRS:
        raise BadPair(pair)


def _behind_parting(custom, pair, event, near):
    """The pair behind an event that parts the couple."""
    word = custom.word(event)
    if pair == "asleep":
        return "awake"
    return "none" if word == "beside" and not near else _PARTED[word]


def _behind(custom, pair, event, near):
    """The pair behind the event, or None if it cannot happen."""
    if event in ("sold", "kept"):
        return _behind_parting(custom, pair, event, near) if pair in _TOGETHER else None
    if pair in _TOGETHER:
        return None
    if event == "joined":
        return "asleep" if pair != "none" and custom.joined == "sleep" else "own"
    if event == "untold":
        dies = custom.untold == "die" or (custom.untold == "needed stay" and pair == "awake")
        return "none" if dies else pair
    return "awake" if event == "grant" else "none"


def pair_after(custom, pair, event, *, near=True):
    """The pair behind the event, or None if it cannot happen."""
    _check_pair(pair)
    if event not in EVENTS:
        raise BadEvent(0, event)
    if not near:
        check_sides(custom, "need")
    return _behind(custom, pair, event, near)


def _counted_events(counted):
    """The events that are counted."""
    out = {"untold": counted.untold, "grant": counted.grants, "gives": counted.giving_up}
    return [event for event in EVENTS if out.get(event, True)]


def ways_from(custom, counted, pair, near):
    """For each pair that can come from this one the events, as few as possible, that lead to it."""
    ways = {pair: ()}
    queue = [pair]
    done = 0
    while done < len(queue):
        here = queue[done]
        for event in _counted_events(counted):
            behind = _behind(custom, here, event, near)
            if behind is not None and behind not in ways:
                ways[behind] = ways[here] + (event,)
                queue.append(behind)
        done += 1
    return ways


def pair_states(custom, counted=None, *, near=True):
    """The pairs that can come from "own" by counted events, in the order of PAIRS."""
    if not near:
        check_sides(custom, "need")
    ways = ways_from(custom, meant(counted), "own", near)
    return tuple([pair for pair in PAIRS if pair in ways])


def events_to(custom, counted, pair, *, near=True):
    """As few counted events as possible that lead from "own" to the pair, or None."""
    _check_pair(pair)
    if not near:
        check_sides(custom, "need")
    return ways_from(custom, meant(counted), "own", near).get(pair)


def _deed_of(event, hands):
    """The deed of two cells, in these hands, that is the event for (0, 1), and the hands behind it."""
    free = [hand for hand in range(3) if hand not in hands][0]
    both = ((0, 1), (1, 0))
    if event == "sold":
        return ("goes", (0,), free, both), (free, hands[1])
    if event == "kept":
        return ("goes", (1,), free, both), (hands[0], free)
    if event == "joined":
        return ("goes", (0,), hands[1], both), (hands[1], hands[1])
    if event == "untold":
        return ("goes", (1,), free, ()), (hands[0], free)
    return (event, (0,), (1,)), hands


def play_events(custom, events):
    """A history of two cells whose couple (0, 1) goes through the events, from "own" on."""
    if not is_sequence(events):
        raise BadEvent(0, events)
    pair = "own"
    hands = (0, 0)
    deeds = []
    for index, event in enumerate(events):
        pair = _behind(custom, pair, event, True) if event in EVENTS else None
        if pair is None:
            raise BadEvent(index, event)
        deed, hands = _deed_of(event, hands)
        deeds.append(deed)
    return History(probe_land("bound"), custom, deeds)

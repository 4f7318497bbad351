"""Histories under other numbers of cells and other names of hands [3.8]."""

from landways.deeds import shaped
from landways.errors import BadCells, BadPairs
from landways.histories import History
from landways.lands import MOST_CELLS, MOST_HAND, is_sequence, is_whole
from landways.likeness import check_order, led_couple, led_lot, renumbered
from landways.states import State


def _carried(order, deed):
    """The deed of right shape under the new numbers of cells, shaped."""
    cells = led_lot(order, deed[1])
    if deed[0] != "goes":
        return (deed[0], cells, led_lot(order, deed[2]))
    return shaped((deed[0], cells, deed[2], [led_couple(order, couple) for couple in deed[3]]))


def carried_deed(order, deed):
    """The deed under the new numbers of cells, shaped."""
    if not is_sequence(order) or not is_whole(len(order), 2, MOST_CELLS):
        raise BadCells("order")
    check_order(len(order), order)
    return _carried(order, deed)


def carried_state(order, state):
    """The state under the new numbers of cells, its land too."""
    land = renumbered(state.land, order)
    # The old number of each new cell.
    olds = [order.index(cell) for cell in range(land.cells)]
    hands = [state.hands[old] for old in olds]
    return State(land, hands, [[state.standings[a][b] for b in olds] for a in olds])


def carried_history(order, history):
    """The history under the new numbers of cells, its land too."""
    land = renumbered(history.land, order)
    return History(land, history.custom, [_carried(order, deed) for deed in history.deeds])


def _is_pair(thing):
    """Whether the thing is a sequence of exactly two hands."""
    return is_sequence(thing) and len(thing) == 2 and all([is_whole(hand, 0, MOST_HAND) for hand in thing])


def _named_hands(history):
    """The hands that deeds name, each once, as they are first named."""
    named = []
    for deed in history.deeds:
        if deed[0] == "goes" and deed[2] not in named:
            named.append(deed[2])
    return named


def _with_names(history, names):
    """The history with new names of hands; a hand that has none stays."""
    deeds = []
    for deed in history.deeds:
        if deed[0] == "goes":
            deeds.append((deed[0], deed[1], names.get(deed[2], deed[2]), deed[3]))
        else:
            deeds.append(deed)
    return History(history.land, history.custom, deeds)


def rehanded(history, pairs):
    """The history with new names of hands, told by pairs of an old and a new one."""
    if not is_sequence(pairs) or not all([_is_pair(pair) for pair in pairs]):
        raise BadPairs("pairs")
    names = {old: new for old, new in pairs}
    if len(names) < len(pairs):
        raise BadPairs("pairs")
    if names.get(0, 0) != 0:
        raise BadPairs("start")
    used = sorted(set([0] + _named_hands(history)))
    if len(set([names.get(hand, hand) for hand in used])) < len(used):
        raise BadPairs("alike")
    return _with_names(history, names)


def plain_hands(history):
    """The history whose deeds name the hands 1, 2, .. as they are first named; hand 0 stays."""
    named = [hand for hand in _named_hands(history) if hand != 0]
    return _with_names(history, {hand: k + 1 for k, hand in enumerate(named)})


def trimmed(history):
    """The history without the grants and the givings up that leave the state as it is."""
    deeds = []
    for index, deed in enumerate(history.deeds):
        if deed[0] == "goes" or history.state_at(index) != history.state_at(index + 1):
            deeds.append(deed)
    return History(history.land, history.custom, deeds)

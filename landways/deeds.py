"""Deeds: their shape, whether they can be done, and what they bear on [3.2], [3.4]."""

from landways.errors import BadDeed
from landways.lands import MOST_HAND, is_couple, is_lot, is_sequence, is_whole
from landways.states import RIGHTS

# How long a deed is that begins with each of the words.
_LENGTHS = {"goes": 4, "grant": 3, "gives": 3}


def _has_form(thing):
    """Whether the thing is a sequence that begins with a word of deeds and has its length."""
    if not is_sequence(thing) or len(thing) == 0 or not isinstance(thing[0], str):
        return False
    return len(thing) == _LENGTHS.get(thing[0])


def are_told(land, thing):
    """Whether the thing is a sequence of couples, none of them twice."""
    if not is_sequence(thing) or not all([is_couple(land, couple) for couple in thing]):
        return False
    return len({tuple(couple) for couple in thing}) == len(thing)


def shape_fault(land, deed):
    """The first word that tells what is wrong with the shape of the deed, or None."""
    if not _has_form(deed):
        return "deed"
    if not is_lot(land, deed[1], 1):
        return "cells"
    if deed[0] != "goes":
        return None if is_lot(land, deed[2], 1) else "cells"
    if not is_whole(deed[2], 0, MOST_HAND):
        return "hand"
    return None if are_told(land, deed[3]) else "told"


def _hands_of(state, cells):
    """The hands of the cells, each once, ascending."""
    return sorted(set([state.hands[cell] for cell in cells]))


def deed_fault(state, deed):
    """The first word that tells why the deed cannot be done in the state, or None."""
    word = shape_fault(state.land, deed)
    if word is not None:
        return word
    if deed[0] == "goes":
        return None if _moving(state, deed) else "still"
    hands = _hands_of(state, deed[1])
    others = _hands_of(state, deed[2])
    if len(hands) > 1 or len(others) > 1:
        return "one"
    return "same" if hands == others else None


def check_deed(state, deed):
    """Refuse a deed that cannot be done in the state."""
    word = deed_fault(state, deed)
    if word is not None:
        raise BadDeed(word)


def shaped(deed):
    """The deed, of right shape, as tuples, each of its sequences ascending."""
    cells = tuple(sorted(deed[1]))
    if deed[0] != "goes":
        return (deed[0], cells, tuple(sorted(deed[2])))
    return (deed[0], cells, deed[2], tuple(sorted([tuple(couple) for couple in deed[3]])))


def _moving(state, deed):
    """The cells that a deed of right shape moves, ascending."""
    if deed[0] != "goes":
        return ()
    return tuple([cell for cell in sorted(deed[1]) if state.hands[cell] != deed[2]])


def hands_behind(state, deed):
    """The hands behind a deed of right shape."""
    moving = _moving(state, deed)
    return tuple([deed[2] if a in moving else hand for a, hand in enumerate(state.hands)])


def couples_leaving(land, hands, later):
    """The couples that are of one hand in the first hands and of unlike hands in the second ones."""
    return tuple([(a, b) for a, b in land.couples if hands[a] == hands[b] and later[a] != later[b]])


def couples_untold(state, deed):
    """The couples that a deed of right shape leaves untold, ascending."""
    if deed[0] != "goes":
        return ()
    told = [tuple(couple) for couple in deed[3]]
    now = hands_behind(state, deed)
    couples = [(a, b) for a, b in state.land.couples if now[b] != state.hands[b] and now[a] != deed[2]]
    return tuple([(a, b) for a, b in couples if state.standings[a][b] in RIGHTS and (a, b) not in told])


def moved_cells(state, deed):
    """The cells that move, ascending."""
    check_deed(state, deed)
    return _moving(state, deed)


def hands_after(state, deed):
    """The hands behind the deed."""
    check_deed(state, deed)
    return hands_behind(state, deed)


def parted_couples(state, deed):
    """The couples of one hand ahead of the deed and of unlike hands behind it, ascending."""
    return couples_leaving(state.land, state.hands, hands_after(state, deed))


def joined_couples(state, deed):
    """The couples of unlike hands ahead of the deed and of one hand behind it, ascending."""
    return couples_leaving(state.land, hands_after(state, deed), state.hands)


def untold_couples(state, deed):
    """The couples that go on untold, whatever the custom says of them, ascending."""
    check_deed(state, deed)
    return couples_untold(state, deed)


def is_counted(counted, state, deed):
    """Whether the deed is of a sort that is counted."""
    check_deed(state, deed)
    if deed[0] == "grant":
        return counted.grants
    if deed[0] == "gives":
        return counted.giving_up
    return counted.untold or not couples_untold(state, deed)

"""Mended customs: which choices of a pool keep a wish [10.6], [10.7]."""

from landways.changes import is_lesser
from landways.customs import CLAUSES, customs, differences
from landways.histories import History
from landways.wishes import Kept, judge_wish


class Mends:
    """The least good choices, each with its Kept, and those that have no lesser good one, each with its Broken."""

    def __init__(self, good, bad):
        self.good = good
        self.bad = bad


def _judged(known, wish, custom):
    """The judgment of the wish for the custom, made once for each custom."""
    if custom.number not in known:
        known[custom.number] = judge_wish(wish, custom)
    return known[custom.number]


def good_choices(custom, pool, wish):
    """All good choices, in order."""
    known = {}
    found = []
    for choice in pool.lawful_choices():
        if isinstance(_judged(known, wish, pool.custom_by(custom, choice)), Kept):
            found.append(choice)
    return tuple(found)


def choices_without_lesser(choices, good):
    """Those of the choices, or lots, that have no lesser one among the good ones, in their order."""
    return [choice for choice in choices if not [one for one in good if is_lesser(one, choice)]]


def least_mends(custom, pool, wish):
    """The lawful choices that have no lesser good one: the good ones and the others, each with its judgment."""
    known = {}
    good = []
    bad = []
    for choice in pool.lawful_choices():
        if not [one for one, _ in good if is_lesser(one, choice)]:
            told = _judged(known, wish, pool.custom_by(custom, choice))
            if isinstance(told, Kept):
                good.append((choice, told))
            else:
                bad.append((choice, told))
    return Mends(tuple(good), tuple(bad))


def spoiling_changes(custom, pool, wish):
    """For each least good choice each further index with which it is lawful and not good, with the Broken."""
    known = {}
    lawful = list(pool.lawful_choices())
    found = []
    for choice, _ in least_mends(custom, pool, wish).good:
        for index in range(len(pool)):
            longer = tuple(sorted([*choice, index]))
            # With an index that it has already it is no choice.
            if longer in lawful:
                told = _judged(known, wish, pool.custom_by(custom, longer))
                if not isinstance(told, Kept):
                    found.append((choice, index, told))
    return tuple(found)


def nearest_customs(custom, wish):
    """The fewest clauses in which a custom that keeps the wish differs, and all such customs, or None."""
    for many in range(len(CLAUSES) + 1):
        near = [other for other in customs() if len(differences(custom, other)) == many]
        found = [other for other in near if isinstance(judge_wish(wish, other), Kept)]
        if found:
            return (many, tuple(found))
    return None


def saving_choices(history, pool, cell):
    """The lawful choices under whose custom the cell is open in every state of the same deeds, in order."""
    found = []
    for choice in pool.lawful_choices():
        custom = pool.custom_by(history.custom, choice)
        if History(history.land, custom, history.deeds).first_shut(cell) is None:
            found.append(choice)
    return tuple(found)

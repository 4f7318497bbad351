"""Wishes: what must never come, and whether a custom keeps it [10.3], [10.4]."""

from landways.burdens import NeverMet, meet
from landways.counted import Counted, meant
from landways.errors import BadWish
from landways.everyland import SORTS, EveryLand, on_all_lands, probe_land, shutting
from landways.jointtables import JOINT_CELLS
from landways.lands import Land, is_lot, is_sequence
from landways.tables import Table, view_table
from landways.verdicts import Never, verdict_of

BARS = ("double", "needed")


def _are_words(known, thing):
    """Whether the thing is a sequence of known words, none of them twice."""
    return is_sequence(thing) and len([word for word in known if word in thing]) == len(thing)


class Wish:
    """The base of all wishes: which deeds are counted."""

    def __init__(self, counted=None):
        if counted is not None and not isinstance(counted, Counted):
            raise BadWish("counted")
        self.counted = meant(counted)

    def __eq__(self, other):
        return isinstance(other, Wish) and self.counted == other.counted

    def things(self):
        """What is wished, in order: nothing."""
        return ()


class LandWish(Wish):
    """On one land none of the cells is ever shut off, and nothing comes that is barred."""

    def __init__(self, land, cells, counted=None, *, bars=()):
        if not isinstance(land, Land):
            raise BadWish("land")
        if not is_lot(land, cells, 0):
            raise BadWish("cells")
        super().__init__(counted)
        if not _are_words(BARS, bars):
            raise BadWish("bars")
        if len(cells) == 0 and len(bars) == 0:
            raise BadWish("empty")
        if "double" in bars and land.cells > JOINT_CELLS:
            raise BadWish("wide")
        self.land = land
        self.cells = tuple(sorted(cells))
        self.bars = tuple([word for word in BARS if word in bars])

    def __eq__(self, other):
        return (isinstance(other, LandWish) and self.land == other.land and self.cells == other.cells
                and self.counted == other.counted and self.bars == other.bars)

    def things(self):
        """What is wished, in order: of the cells, then of the bars."""
        found = [("shut", (cell,)) for cell in self.cells]
        if "double" in self.bars:
            found = found + [("double", (one, other)) for one, other in self.land.couples if one < other]
        if "needed" in self.bars:
            found = found + [("needed", (cell,)) for cell in range(self.land.cells)]
        return tuple(found)


class EveryLandWish(Wish):
    """On all lands no cell of these sorts is ever shut off."""

    def __init__(self, sorts, counted=None):
        if not _are_words(SORTS, sorts) or len(sorts) == 0:
            raise BadWish("sorts")
        super().__init__(counted)
        self.sorts = tuple([word for word in SORTS if word in sorts])

    def __eq__(self, other):
        return isinstance(other, EveryLandWish) and self.sorts == other.sorts and self.counted == other.counted

    def things(self):
        """What is wished, in order: of each sort."""
        return tuple([(word, ()) for word in self.sorts])


class Kept:
    """The custom keeps the wish: a paper for each thing."""

    def __init__(self, wish, custom, papers):
        self.wish = wish
        self.custom = custom
        self.papers = papers


class Broken:
    """The custom does not keep the thing: the paper that shows it."""

    def __init__(self, wish, custom, thing, paper):
        self.wish = wish
        self.custom = custom
        self.thing = thing
        self.paper = paper


class Needed:
    """The right over the other cell can come to be needed: a history behind which it is."""

    def __init__(self, other, history):
        self.other = other
        self.history = history


def first_needed(table):
    """The least cell that is needed in some view of the table, with the first such view, or None."""
    for other in range(table.land.cells):
        for view in table.views:
            if other in view.needed:
                return (other, view)
    return None


def _needed_paper(wish, custom, cell):
    """The Table of the cell, if none of its rights is ever needed, else a Needed."""
    table = view_table(wish.land, custom, cell, wish.counted)
    found = first_needed(table)
    return table if found is None else Needed(found[0], table.history_of(found[1]))


def _sort_paper(wish, custom, sort):
    """The EveryLand, if no cell of the sort is ever shut off, else a history of the probe land."""
    history = shutting(probe_land(sort), custom, 0, wish.counted)
    return on_all_lands(custom, wish.counted) if history is None else history


def _paper(wish, custom, thing):
    """The paper that shows whether the custom keeps the thing."""
    word, cells = thing
    if word == "shut":
        return verdict_of(wish.land, custom, cells[0], wish.counted)
    if word == "double":
        return meet(wish.land, custom, cells[0], cells[1], "double", wish.counted)
    if word == "needed":
        return _needed_paper(wish, custom, cells[0])
    return _sort_paper(wish, custom, word)


def judge_wish(wish, custom):
    """Whether the custom keeps the wish, thing by thing: a Kept, or a Broken for the first thing that it does not."""
    papers = []
    for thing in wish.things():
        paper = _paper(wish, custom, thing)
        if not isinstance(paper, (Never, NeverMet, Table, EveryLand)):
            return Broken(wish, custom, thing, paper)
        papers.append(paper)
    return Kept(wish, custom, tuple(papers))

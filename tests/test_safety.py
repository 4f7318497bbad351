"""[6.8]: safe pairs and cells, and strippings."""

import random
import unittest

import oracle
from helpers import CHAIN, FORK, NO_NUMBERS, PAIR, RING, ROW, caught, some_deeds, some_histories, tuples_only
from landways.counted import Counted, counteds
from landways.customs import Custom, customs
from landways.deeds import deed_fault, is_counted
from landways.histories import History
from landways.lands import Land
from landways.playing import after
from landways.safety import can_be_shut, is_safe_pair, safe_cells, safe_couples, stripping
from landways.tables import table_behind
from landways.twocells import PAIRS, pair_of
from landways.verdicts import Shut, verdict_behind
from test_twocells import NO_WORDS, WITHOUT_NEED, fewest_events

BARE = Counted(False, False, False)
VEE = Land(3, [(0, 1), (0, 2)], [1, 2])
LINE = Land(4, [(0, 1), (1, 2), (2, 3)], [0])


def custom(**given):
    return Custom(**{**dict(untold="stay", joined="die", sold="all", kept="all", ends="never"), **given})


class Pairs(unittest.TestCase):

    def test_against_events(self):
        for one in customs():
            for counted in counteds():
                for near in (True, False) if not one.uses("need") else (True,):
                    for pair in PAIRS:
                        safe = "none" not in fewest_events(one, counted, pair, near)
                        self.assertIs(is_safe_pair(one, counted, pair, near=near), safe)

    def test_some_by_hand(self):
        self.assertIs(is_safe_pair(custom(), BARE, "none"), False)
        self.assertIs(is_safe_pair(custom(), BARE, "own"), True)
        self.assertIs(is_safe_pair(custom(), Counted(giving_up=True), "own"), False)
        self.assertIs(is_safe_pair(custom(sold="none"), BARE, "awake"), False)
        self.assertIs(is_safe_pair(custom(sold="none", joined="sleep"), BARE, "awake"), True)
        self.assertIs(is_safe_pair(custom(sold="none", joined="sleep"), BARE, "own"), False)
        self.assertIs(is_safe_pair(custom(sold="beside"), BARE, "own"), True)
        self.assertIs(is_safe_pair(custom(sold="beside"), BARE, "own", near=False), False)
        self.assertIs(is_safe_pair(custom(untold="die"), BARE, "awake"), True)
        self.assertIs(is_safe_pair(custom(untold="die"), Counted(), "awake"), False)
        self.assertIs(is_safe_pair(custom(untold="needed stay", sold="need", kept="need"), Counted(), "needed"), False)
        self.assertIs(is_safe_pair(custom(untold="needed stay", sold="need", kept="need"), Counted(False), "needed"), True)

    def test_what_is_wrong(self):
        need = custom(sold="need", kept="need")
        for thing in NO_WORDS:
            self.assertEqual(caught(lambda: is_safe_pair(need, BARE, thing, near=False)), ("BadPair", thing))
        self.assertEqual(caught(lambda: is_safe_pair(need, BARE, "own", near=False)), ("NeedsLand", "sold"))
        self.assertEqual(caught(lambda: is_safe_pair(custom(kept="need"), BARE, "own", near=False)),
                         ("NeedsLand", "kept"))


def some_pasts(seed, lands, step=1, many=5):
    """Drawn histories without need, with a cell and a Counted."""
    source = random.Random(seed)
    for k, one in enumerate(WITHOUT_NEED[::step]):
        land = lands[k % len(lands)]
        past = History(land, one, some_deeds(source, land, one, source.randrange(many)))
        yield past, source.randrange(land.cells), Counted(*source.choices([False, True], k=3))


class Cells(unittest.TestCase):

    def test_the_example(self):
        one = Custom("stay", "sleep", "none", "all", "never")
        past = History(PAIR, one, [("goes", [1], 1, [])])
        self.assertEqual((safe_cells(past, 0), safe_cells(past, 1)), ((0, 1), (1,)))
        self.assertEqual((can_be_shut(past, 0), can_be_shut(past, 1)), (False, False))
        self.assertIs(can_be_shut(History(PAIR, one), 0), True)
        self.assertEqual(safe_couples(past), ((0, 1),))

    def test_as_the_pairs_tell(self):
        for past, cell, counted in some_pasts(131, (ROW, FORK, CHAIN), many=8):
            land, one, state = past.land, past.custom, past.state
            lots = []
            for a in range(land.cells):
                cells = [b for b in land.others(a)
                         if is_safe_pair(one, counted, pair_of(state, a, b), near=land.is_neighbour(a, b))]
                lots.append(tuple(sorted([a, *cells])))
                self.assertEqual(safe_cells(past, a, counted), lots[a])
                self.assertIs(can_be_shut(past, a, counted),
                              not land.is_road(a) and not oracle.is_open(land, a, set(lots[a])))
            self.assertEqual(safe_couples(past, counted),
                             tuple((a, b) for a, b in sorted(land.couples) if b in lots[a]))
            self.assertTrue(tuples_only((safe_couples(past, counted), safe_cells(past, cell, counted))))

    def test_against_the_tables(self):
        for seed in range(3):
            for past, cell, counted in some_pasts(132 + seed, (PAIR, ROW, VEE, RING, LINE)):
                table = table_behind(past, cell, counted)
                always = [set(view.passing()) for view in table.views]
                self.assertEqual(set(safe_cells(past, cell, counted)), set.intersection(*always))
                self.assertIs(can_be_shut(past, cell, counted),
                              isinstance(verdict_behind(past, cell, counted), Shut))

    def test_road_cells(self):
        for past, _, counted in some_pasts(135, (ROW,)):
            self.assertIs(can_be_shut(past, 0, counted), False)

    def test_a_cell_that_is_shut_off_already(self):
        past = History(ROW, custom(sold="none"), [("goes", [2], 1, [])])
        self.assertEqual((safe_cells(past, 2), can_be_shut(past, 2), stripping(past, 2)), ((2,), True, ()))

    def test_counted_left_out_none_by_place_and_by_name(self):
        past = History(ROW, custom(untold="die", joined="sleep"))
        for told in (safe_cells(past, 2), safe_cells(past, 2, None), safe_cells(past, 2, counted=Counted())):
            self.assertEqual(told, (2,))
        self.assertEqual(safe_cells(past, 2, BARE), (0, 1, 2))
        self.assertEqual((can_be_shut(past, 2), can_be_shut(past, 2, None), can_be_shut(past, 2, BARE)), (True, True, False))
        self.assertEqual((safe_couples(past), safe_couples(past, None)), ((), ()))
        self.assertEqual(safe_couples(past, counted=BARE), ROW.couples)
        self.assertEqual(len(stripping(past, 2)), len(stripping(past, 2, None)))
        self.assertEqual(stripping(past, 2, BARE), ())

    def test_what_is_wrong(self):
        both, kept = custom(sold="need", kept="need"), custom(kept="need")
        for ask in (safe_cells, can_be_shut, stripping):
            self.assertEqual(caught(lambda: ask(History(ROW, both), 9)), ("NeedsLand", "sold"))
            self.assertEqual(caught(lambda: ask(History(ROW, kept), 9)), ("NeedsLand", "kept"))
            for thing in (-1, 3, *NO_NUMBERS):
                self.assertEqual(caught(lambda: ask(History(ROW, custom()), thing)), ("BadCell", thing))
        self.assertEqual(caught(lambda: safe_couples(History(ROW, both))), ("NeedsLand", "sold"))
        self.assertEqual(caught(lambda: safe_couples(History(ROW, kept), None)), ("NeedsLand", "kept"))


class Stripping(unittest.TestCase):

    def check(self, past, cell, counted):
        deeds = stripping(past, cell, counted)
        self.assertTrue(tuples_only(deeds))
        self.assertLessEqual(len(deeds), 2)
        state = past.state
        for deed in deeds:
            self.assertIsNone(deed_fault(state, deed))
            self.assertIs(is_counted(counted, state, deed), True)
            state = after(past.custom, state, deed)
        safe = safe_cells(past, cell, counted)
        self.assertEqual(state.passing(cell), safe)
        self.assertEqual(safe_cells(past.then(*deeds), cell, counted), safe)
        return len(deeds)

    def test_drawn_histories(self):
        lengths = set()
        for history in some_histories(136, [one.number for one in WITHOUT_NEED], many=7):
            for counted in counteds():
                for cell in range(history.land.cells):
                    lengths.add(self.check(history, cell, counted))
        self.assertEqual(lengths, {0, 1, 2})

    def test_from_the_start(self):
        for one in WITHOUT_NEED:
            for counted in counteds():
                for land in (PAIR, LINE):
                    self.check(History(land, one), land.cells - 1, counted)

    def test_no_deed_one_and_two(self):
        none = custom(sold="none")
        self.assertEqual(self.check(History(LINE, custom()), 2, BARE), 0)
        self.assertEqual(self.check(History(LINE, none), 2, BARE), 1)
        past = History(LINE, none, [("goes", [0], 1, [])])
        self.assertEqual(past.state.standing(2, 0), "awake")
        self.assertEqual(self.check(past, 2, BARE), 2)
        self.assertEqual(self.check(History(LINE, none, [("goes", [2], 1, [])]), 2, BARE), 0)

    def test_rights_over_cells_of_several_hands(self):
        past = History(CHAIN, custom(), [("goes", [0], 1, []), ("goes", [1], 2, []), ("goes", [3], 3, [])])
        for counted in (Counted(False, False, True), Counted(True, False, True)):
            self.assertEqual(self.check(past, 4, counted), 2)
        self.assertEqual(self.check(History(CHAIN, custom(untold="die"), past.deeds[:1]), 4, Counted(grants=False)), 2)

    def test_neighbours_stay_passed(self):
        for clause in ("sold", "kept"):
            one = custom(**{clause: "beside"})
            past = History(LINE, one, [("goes", [3], 1, []), ("grant", [3], [0])])
            self.assertEqual(safe_cells(past, 3, BARE), (2, 3))
            self.check(past, 3, BARE)
            self.check(History(LINE, one), 2, BARE)

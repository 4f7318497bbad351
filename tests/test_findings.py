"""[9.4] to [9.6]: what is found, what it settles, and what can still come."""

import unittest

from helpers import NO_NUMBERS, PAIR, ROW, VEE, caught, subsets, tuples_only
from landways.counted import Counted, counteds
from landways.customs import Custom, customs
from landways.findings import (is_idle, least_findings, prospect, settled_by, sure_safe_cells, telling_findings,
                               with_finding)
from landways.safety import can_be_shut, safe_cells
from landways.smudges import Smudged, lawful_fillings
from landways.tidings import sure_standing, told_standings, unsure_couples
from registers import filled, findings_of, some_smudges

DYING = Custom("die", "die", "all", "all", "never")
EXAMPLE = Smudged(PAIR, DYING, [("goes", [1], 1, []), ("goes", [1], 2, [])], [("told", 1, [(0, 1)])])
NO_PLACES = (-1, 1, *NO_NUMBERS)


def found_or_none(smudged, place, finding):
    """The register with the finding, or None if no filling is left."""
    try:
        return with_finding(smudged, place, finding)
    except ValueError as fault:
        assert type(fault).__name__ == "NoFilling"
        return None


class Finding(unittest.TestCase):

    def test_the_lawful_histories_are_those_of_all_findings_of_a_row(self):
        for smudged, fillings in some_smudges(421):
            for place, row in enumerate(smudged.lost):
                again = []
                for finding in findings_of(row):
                    found = found_or_none(smudged, place, finding)
                    ahead = [(findings, history) for findings, history in fillings if findings[place] == finding]
                    if found is None:
                        self.assertEqual(ahead, [])
                        continue
                    self.assertEqual(found.lost, smudged.lost[:place] + smudged.lost[place + 1:])
                    self.assertEqual((found.land, found.custom), (smudged.land, smudged.custom))
                    self.assertEqual(list(found.deeds), filled(smudged.deeds, [row], [finding]))
                    self.assertEqual(list(lawful_fillings(found)),
                                     [(findings[:place] + findings[place + 1:], history) for findings, history in ahead])
                    again += list(lawful_fillings(found))
                self.assertEqual(len(again), len(fillings))

    def test_what_is_sure_stays_sure(self):
        for smudged, _ in some_smudges(422, range(0, 192, 2)):
            for place, row in enumerate(smudged.lost):
                further = [found_or_none(smudged, place, finding) for finding in findings_of(row)]
                further = [found for found in further if found is not None]
                for a, b in smudged.land.couples:
                    told = [set(told_standings(found, a, b)) for found in further]
                    self.assertEqual(set().union(*told), set(told_standings(smudged, a, b)))
                    sure = sure_standing(smudged, a, b)
                    if sure is not None:
                        self.assertEqual({sure_standing(found, a, b) for found in further}, {sure})

    def test_the_example(self):
        for finding, standing in (([], "none"), ([(0, 1)], "awake"), (((0, 1),), "awake"), ([[0, 1]], "awake")):
            found = with_finding(EXAMPLE, 0, finding)
            self.assertEqual((found.lost, found.many, sure_standing(found, 0, 1)), ((), 1, standing))
        self.assertEqual(with_finding(smudged=EXAMPLE, place=0, finding=[(0, 1)]).deeds[1], ("goes", (1,), 2, ((0, 1),)))

    def test_both_rows_of_one_deed(self):
        smudged = Smudged(ROW, DYING, [("goes", [2], 0, [(1, 2)])], [("hand", 0, [3, 1]), ("told", 0, [(1, 0), (0, 2), (1, 2)])])
        found = with_finding(smudged, 1, [(1, 2), (1, 0), (0, 2)])
        self.assertEqual(found.deeds, (("goes", (2,), 0, ((1, 2), (0, 2), (1, 0))),))
        self.assertEqual(found.lost, (("hand", 0, (3, 1)),))
        self.assertEqual(with_finding(found, 0, 1).deeds, (("goes", (2,), 1, ((1, 2), (0, 2), (1, 0))),))
        found = with_finding(smudged, 0, 3)
        self.assertEqual((found.deeds[0][2], found.lost), (3, (("told", 0, ((0, 2), (1, 0), (1, 2))),)))

    def test_what_is_wrong(self):
        smudged = Smudged(ROW, DYING, [("goes", [2], 1, []), ("goes", [2], 2, [])],
                          [("hand", 0, [0, 1, 2, 7]), ("told", 1, [(0, 2), (1, 2)])])
        for thing in (-1, 2, *NO_NUMBERS):
            for finding in (1, None):
                self.assertEqual(caught(lambda: with_finding(smudged, thing, finding)), ("BadFinding", "place"))
        for finding in (3, -1, *NO_NUMBERS, (1,)):
            self.assertEqual(caught(lambda: with_finding(smudged, 0, finding)), ("BadFinding", "finding"))
        for finding in (None, 1, True, (0, 2), [(0, 1)], [(0, 2), (0, 2)], [(False, 2)], "02", [(0, 2), [0, 2]], {(0, 2)}):
            self.assertEqual(caught(lambda: with_finding(smudged, 1, finding)), ("BadFinding", "finding"))
        self.assertEqual(caught(lambda: with_finding(smudged, 0, 0)), ("NoFilling",))
        self.assertEqual(caught(lambda: with_finding(smudged, 0, 2)), ("NoFilling",))
        self.assertEqual(with_finding(smudged, 0, 7).deeds[0], ("goes", (2,), 7, ()))
        self.assertEqual(caught(lambda: with_finding(Smudged(ROW, DYING, [], []), 0, 1)), ("BadFinding", "place"))

    def test_nothing_is_changed(self):
        couples = [[0, 1]]
        found = with_finding(EXAMPLE, 0, couples)
        couples[0][0] = 5
        self.assertEqual(found.deeds[1][3], ((0, 1),))
        self.assertEqual(EXAMPLE.lost, (("told", 1, ((0, 1),)),))


class Idle(unittest.TestCase):

    def test_drawn_registers(self):
        found = set()
        for smudged, fillings in some_smudges(423):
            for place in range(len(smudged.lost)):
                unlike = {(one, other) for one, first in fillings for other, second in fillings
                          if one[:place] == other[:place] and one[place + 1:] == other[place + 1:]
                          and first.state != second.state}
                self.assertIs(is_idle(smudged, place), not unlike)
                told = telling_findings(smudged, place)
                if unlike:
                    self.assertIn(told, unlike)
                    self.assertTrue(tuples_only(told))
                else:
                    self.assertIsNone(told)
                found.add(not unlike)
        self.assertEqual(found, {True, False})

    def test_a_row_that_does_nothing(self):
        smudged = Smudged(PAIR, DYING, [("goes", [1], 1, [])], [("told", 0, [(0, 1)]), ("hand", 0, [5, 1, 9])])
        for place in (0, 1):
            # Unlike hands by which the same cells lie together are one state.
            self.assertIs(is_idle(smudged, place), True)
            self.assertIsNone(telling_findings(smudged, place))
        self.assertIs(is_idle(EXAMPLE, 0), False)
        self.assertEqual(sorted(telling_findings(EXAMPLE, 0)), [((),), (((0, 1),),)])

    def test_hands_that_bring_cells_together(self):
        smudged = Smudged(ROW, DYING, [("goes", [2], 1, []), ("goes", [1], 1, [])], [("hand", 1, [1, 2])])
        self.assertIs(is_idle(smudged, 0), False)
        self.assertEqual(sorted(telling_findings(smudged, 0)), [(1,), (2,)])

    def test_fillings_that_differ_at_another_place_too(self):
        # The two findings at the last place are never lawful with one and the same finding ahead.
        deeds = [("goes", [2], 1, []), ("goes", [2], 2, [])]
        smudged = Smudged(ROW, DYING, deeds, [("hand", 0, [1, 2]), ("hand", 1, [1, 2])])
        self.assertEqual([findings for findings, _ in lawful_fillings(smudged)], [(1, 2), (2, 1)])
        self.assertEqual([is_idle(smudged, place) for place in (0, 1)], [True, True])

    def test_what_is_wrong(self):
        for thing in NO_PLACES:
            for ask in (is_idle, telling_findings, settled_by):
                self.assertEqual(caught(lambda: ask(EXAMPLE, thing)), ("BadFinding", "place"))


class Settled(unittest.TestCase):

    def test_settled_by(self):
        found = set()
        for smudged, fillings in some_smudges(424):
            unsure = unsure_couples(smudged)
            for place, row in enumerate(smudged.lost):
                expected = []
                for a, b in unsure:
                    groups = [{history.state.standing(a, b) for findings, history in fillings if findings[place] == finding}
                              for finding in findings_of(row)]
                    if all(len(group) <= 1 for group in groups):
                        expected.append((a, b))
                self.assertEqual(settled_by(smudged, place), tuple(expected))
                further = [found_or_none(smudged, place, finding) for finding in findings_of(row)]
                for a, b in expected:
                    self.assertNotIn(None, [sure_standing(one, a, b) for one in further if one is not None])
                found.add((len(unsure) > 0, len(expected) > 0))
        self.assertEqual(found, {(False, False), (True, False), (True, True)})
        self.assertEqual(settled_by(EXAMPLE, 0), ((0, 1),))

    def test_least_findings(self):
        found = set()
        for smudged, fillings in some_smudges(425, many=5, most=4):
            def settles(lot):
                groups = {}
                for findings, history in fillings:
                    groups.setdefault(tuple(findings[place] for place in lot), set()).add(history.state.standings)
                return all(len(group) == 1 for group in groups.values())
            enough = [lot for lot in subsets(range(len(smudged.lost))) if settles(lot)]
            expected = tuple(lot for lot in enough if not [one for one in enough if set(one) < set(lot)])
            self.assertEqual(least_findings(smudged), expected)
            self.assertTrue(tuples_only(least_findings(smudged)))
            self.assertEqual(least_findings(smudged) == ((),), not unsure_couples(smudged))
            found |= {len(lot) for lot in expected}
            found.add("several" if len(expected) > 1 else "one")
        self.assertLessEqual({0, 1, 2, "one"}, found)

    def test_least_findings_by_hand(self):
        self.assertEqual(least_findings(EXAMPLE), ((0,),))
        self.assertEqual(least_findings(Smudged(PAIR, DYING, EXAMPLE.deeds, [])), ((),))
        deeds = [("goes", [1], 1, []), ("goes", [0], 2, []), ("goes", [1], 3, [])]
        both = Smudged(PAIR, DYING, deeds, [("told", 1, [(1, 0)]), ("hand", 0, [1, 9]), ("told", 2, [(0, 1)])])
        self.assertEqual(least_findings(both), ((0, 2),))
        # Either of two rows tells which hand was taken, since the other one was left.
        deeds = [("goes", [2], 1, []), ("goes", [1], 2, []), ("goes", [1], 1, [])]
        either = Smudged(ROW, DYING.changed("joined", "sleep"), deeds, [("hand", 1, [2, 1]), ("hand", 2, [1, 2])])
        self.assertEqual([findings for findings, _ in lawful_fillings(either)], [(2, 1), (1, 2)])
        self.assertEqual(least_findings(either), ((0,), (1,)))


class Prospects(unittest.TestCase):

    def test_drawn_registers(self):
        plain = [one.number for one in customs() if not one.uses("need")]
        found = set()
        for k, (smudged, fillings) in enumerate(some_smudges(426, plain * 2, lands=(PAIR, ROW, VEE))):
            counted = list(counteds())[k % 8]
            for cell in range(smudged.land.cells):
                truths = {can_be_shut(history, cell, counted) for _, history in fillings}
                expected = {(True,): "exposed", (False,): "safe"}.get(tuple(truths), "unsure")
                self.assertEqual(prospect(smudged, cell, counted), expected)
                lots = [set(safe_cells(history, cell, counted)) for _, history in fillings]
                self.assertEqual(sure_safe_cells(smudged, cell, counted), tuple(sorted(set.intersection(*lots))))
                found.add(expected)
        self.assertEqual(found, {"exposed", "safe", "unsure"})

    def test_by_hand(self):
        told = Counted(untold=False)
        self.assertEqual([prospect(EXAMPLE, cell, told) for cell in (0, 1)], ["unsure", "safe"])
        self.assertEqual(sure_safe_cells(EXAMPLE, 0, told), (0,))
        self.assertEqual(sure_safe_cells(with_finding(EXAMPLE, 0, [(0, 1)]), 0, told), (0, 1))
        # The right sleeps behind the first finding, and is dead behind the second one.
        sleepy = Custom("die", "sleep", "none", "all", "never")
        smudged = Smudged(PAIR, sleepy, [("goes", [1], 1, []), ("goes", [1], 2, [])], [("hand", 1, [0, 2])])
        first, second = [history for _, history in lawful_fillings(smudged)]
        told = Counted(grants=False, untold=False)
        self.assertEqual((safe_cells(first, 0, told), safe_cells(second, 0, told)), ((0, 1), (0,)))
        self.assertEqual((sure_safe_cells(smudged, 0, told), prospect(smudged, 0, told)), ((0,), "unsure"))
        told = Counted(untold=False)
        self.assertEqual(prospect(with_finding(EXAMPLE, 0, [(0, 1)]), 0, told), "safe")
        self.assertEqual(prospect(with_finding(EXAMPLE, 0, []), 0, told), "exposed")

    def test_counted_left_out_none_by_place_and_by_name(self):
        for told in (prospect(EXAMPLE, 0), prospect(EXAMPLE, 0, None), prospect(smudged=EXAMPLE, cell=0, counted=None)):
            self.assertEqual(told, "exposed")
        for told in (sure_safe_cells(EXAMPLE, 0), sure_safe_cells(EXAMPLE, 0, None),
                     sure_safe_cells(smudged=EXAMPLE, cell=0, counted=Counted())):
            self.assertEqual(told, (0,))

    def test_what_is_wrong(self):
        for sold, kept, word in [("need", "need", "sold"), ("all", "need", "kept"), ("need", "none", "sold")]:
            smudged = Smudged(PAIR, Custom("die", "die", sold, kept, "never"), EXAMPLE.deeds, EXAMPLE.lost)
            for ask in (prospect, sure_safe_cells):
                self.assertEqual(caught(lambda: ask(smudged, 9)), ("NeedsLand", word))
        for thing in (-1, 2, *NO_NUMBERS):
            for ask in (prospect, sure_safe_cells):
                self.assertEqual(caught(lambda: ask(EXAMPLE, thing)), ("BadCell", thing))

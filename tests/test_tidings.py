"""[9.3]: what a smudged register tells."""

import unittest

from helpers import NO_NUMBERS, PAIR, ROW, caught, tuples_only
from landways.customs import Custom
from landways.smudges import Smudged
from landways.tidings import openness, parting_findings, sure_standing, told_standings, unsure_cells, unsure_couples
from registers import some_smudges

DYING = Custom("die", "die", "all", "all", "never")
EXAMPLE = Smudged(PAIR, DYING, [("goes", [1], 1, []), ("goes", [1], 2, [])], [("told", 1, [(0, 1)])])
ORDER = ("none", "awake", "needed", "asleep")


class Tidings(unittest.TestCase):

    def test_the_example(self):
        self.assertEqual(told_standings(EXAMPLE, 0, 1, 1), ("awake",))
        self.assertEqual(told_standings(EXAMPLE, 0, 1, 2), ("none", "awake"))
        self.assertEqual(told_standings(EXAMPLE, 0, 1, 0), ("none",))
        self.assertEqual((sure_standing(EXAMPLE, 0, 1, 1), sure_standing(EXAMPLE, 0, 1)), ("awake", None))
        self.assertEqual([openness(EXAMPLE, 0, many) for many in (0, 1, 2, None)], ["open", "open", "unsure", "unsure"])
        self.assertEqual(openness(EXAMPLE, 1), "open")
        self.assertEqual(sorted(parting_findings(EXAMPLE, 0, 1)), [((),), (((0, 1),),)])
        self.assertIsNone(parting_findings(EXAMPLE, 1, 0))
        self.assertEqual((unsure_couples(EXAMPLE), unsure_cells(EXAMPLE)), (((0, 1),), (0,)))
        self.assertEqual((unsure_couples(EXAMPLE, 1), unsure_cells(EXAMPLE, 1)), ((), ()))

    def check(self, smudged, fillings, asked):
        many = len(smudged.deeds) if asked is None else asked
        states = {findings: history.state_at(many) for findings, history in fillings}
        unsure = []
        for a, b in smudged.land.couples:
            words = {state.standing(a, b) for state in states.values()}
            expected = tuple(word for word in ORDER if word in words)
            self.assertEqual(told_standings(smudged, a, b, asked), expected)
            self.assertEqual(sure_standing(smudged, a, b, asked), expected[0] if len(words) == 1 else None)
            parted = parting_findings(smudged, a, b, asked)
            if len(words) == 1:
                self.assertIsNone(parted)
            else:
                unsure.append((a, b))
                one, other = parted
                self.assertNotEqual(states[one].standing(a, b), states[other].standing(a, b))
                self.assertTrue(tuples_only(parted))
        self.assertEqual(unsure_couples(smudged, asked), tuple(unsure))
        cells = []
        for cell in range(smudged.land.cells):
            truths = {state.is_open(cell) for state in states.values()}
            word = {(True,): "open", (False,): "shut"}.get(tuple(truths), "unsure")
            self.assertEqual(openness(smudged, cell, asked), word)
            cells += [cell] if word == "unsure" else []
        self.assertEqual(unsure_cells(smudged, asked), tuple(cells))
        return len(unsure), len(cells)

    def test_drawn_registers(self):
        found = [0, 0]
        for smudged, fillings in some_smudges(411, [*range(192), *range(64, 192)], many=6):
            for many in [None, *range(len(smudged.deeds) + 1)]:
                couples, cells = self.check(smudged, fillings, many)
                found = [found[0] + couples, found[1] + cells]
        self.assertGreaterEqual(min(found), 10)

    def test_all_four_standings_in_order(self):
        # A drawn register with three standings and more for one couple, so that their order is seen.
        seen = set()
        for smudged, _ in some_smudges(412, [*range(192), *range(64, 192)], many=7):
            for a, b in smudged.land.couples:
                seen.add(told_standings(smudged, a, b))
        self.assertTrue(all(list(row) == sorted(row, key=ORDER.index) for row in seen))
        self.assertGreater(len([row for row in seen if len(row) > 1]), 3)

    def test_three_standings(self):
        one = Custom("needed stay", "sleep", "all", "all", "never")
        smudged = Smudged(ROW, one, [("goes", [2], 1, []), ("goes", [2], 2, [])], [("hand", 1, [0, 3]), ("told", 1, [(0, 2)])])
        self.assertEqual(told_standings(smudged, 0, 2), ("none", "awake", "asleep"))
        self.assertEqual(told_standings(smudged, a=0, b=2, many=None), ("none", "awake", "asleep"))

    def test_only_lawful_fillings_count(self):
        smudged = Smudged(PAIR, DYING, [("goes", [1], 1, [])], [("hand", 0, [0, 1])])
        self.assertEqual(told_standings(smudged, 0, 1), ("awake",))
        self.assertEqual(unsure_couples(smudged), ())

    def test_many_left_out_none_by_place_and_by_name(self):
        for told in (unsure_couples(EXAMPLE), unsure_couples(EXAMPLE, None), unsure_couples(smudged=EXAMPLE, many=2)):
            self.assertEqual(told, ((0, 1),))
        for told in (unsure_cells(EXAMPLE, None), unsure_cells(smudged=EXAMPLE, many=None)):
            self.assertEqual(told, (0,))
        self.assertEqual(openness(smudged=EXAMPLE, cell=0, many=None), "unsure")
        self.assertIsNone(sure_standing(smudged=EXAMPLE, a=0, b=1, many=None))
        self.assertIsNone(parting_findings(smudged=EXAMPLE, a=0, b=1, many=1))

    def test_what_is_wrong(self):
        for thing in (-1, 2, *NO_NUMBERS):
            for ask in (told_standings, sure_standing, parting_findings):
                self.assertEqual(caught(lambda: ask(EXAMPLE, thing, 9, -1)), ("BadCell", thing))
                self.assertEqual(caught(lambda: ask(EXAMPLE, 0, thing, -1)), ("BadCell", thing))
                self.assertEqual(caught(lambda: ask(EXAMPLE, 1, 1, -1)), ("BadCell", 1))
            self.assertEqual(caught(lambda: openness(EXAMPLE, thing, -1)), ("BadCell", thing))
        for thing in (-1, 3, *[one for one in NO_NUMBERS if one is not None]):
            for ask in (lambda: told_standings(EXAMPLE, 0, 1, thing), lambda: sure_standing(EXAMPLE, 0, 1, thing),
                        lambda: parting_findings(EXAMPLE, 0, 1, thing), lambda: openness(EXAMPLE, 0, thing),
                        lambda: unsure_couples(EXAMPLE, thing), lambda: unsure_cells(EXAMPLE, thing)):
                self.assertEqual(caught(ask), ("NoDeed", thing))

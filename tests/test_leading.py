"""[6.5]: histories of two cells led over to other lands."""

import random
import unittest

from helpers import CHAIN, HOUSE, LANDS, NO_NUMBERS, PAIR, RING, ROW, caught, some_deeds
from landways.customs import Custom, custom_at
from landways.everyland import probe_land
from landways.histories import History
from landways.lands import MOST_HAND, Land
from landways.leading import lead_deed, lead_over

EXAMPLE = Custom("needed stay", "sleep", "need", "need", "free")
LINE = Land(4, [(0, 1), (1, 2), (2, 3)], [0])


class Deeds(unittest.TestCase):

    def test_forms(self):
        for deed, led in [(("goes", [0], 7, []), ("goes", (2,), 7, ())),
                          (("goes", [1], 10 ** 30, []), ("goes", (0, 1, 3), 10 ** 30, ())),
                          (["goes", [1, 0], 0, ()], ("goes", (0, 1, 2, 3), 0, ())),
                          (("goes", [0], 1, [[0, 1]]), ("goes", (2,), 1, ((2, 0), (2, 1), (2, 3)))),
                          (("goes", [0], 1, [(1, 0)]), ("goes", (2,), 1, ((0, 2), (1, 2), (3, 2)))),
                          (("goes", [0], 1, [(1, 0), (0, 1)]),
                           ("goes", (2,), 1, ((0, 2), (1, 2), (2, 0), (2, 1), (2, 3), (3, 2)))),
                          (("grant", [0], [1]), ("grant", (2,), (0, 1, 3))), (("gives", (1,), [0]), ("gives", (0, 1, 3), (2,))),
                          (("grant", [0, 1], [1]), ("grant", (0, 1, 2, 3), (0, 1, 3)))]:
            self.assertEqual(lead_deed(LINE, 2, deed), led)

    def test_two_cells_themselves(self):
        self.assertEqual(lead_deed(PAIR, 0, ("goes", [1], 3, [(0, 1)])), ("goes", (1,), 3, ((0, 1),)))

    def test_what_is_wrong(self):
        for thing in (-1, 3, *NO_NUMBERS):
            self.assertEqual(caught(lambda: lead_deed(ROW, thing, None)), ("BadCell", thing))
        self.assertEqual(caught(lambda: lead_deed(ROW, 0, None)), ("RoadCell", 0))
        for deed, word in [(None, "deed"), ("goes", "deed"), (("goes", [0], 1), "deed"), (("goes", [2], 1, []), "cells"),
                           (("goes", [], 1, []), "cells"), (("grant", [0], [2]), "cells"), (("goes", [0], -1, []), "hand"),
                           (("goes", [0], MOST_HAND + 1, []), "hand"), (("goes", [0], True, []), "hand"),
                           (("goes", [0], 1, [(0, 2)]), "told"), (("goes", [0], 1, [(0, 1), [0, 1]]), "told")]:
            self.assertEqual(caught(lambda: lead_deed(ROW, 2, deed)), ("BadDeed", word))

    def test_what_is_passed_in_stays(self):
        deed = ["goes", [1, 0], 1, [[1, 0]]]
        lead_deed(ROW, 2, deed)
        self.assertEqual(deed, ["goes", [1, 0], 1, [[1, 0]]])


class Histories(unittest.TestCase):

    def check(self, history, land, cell):
        led = lead_over(history, land, cell)
        self.assertEqual((led.land, led.custom, len(led)), (land, history.custom, len(history)))
        self.assertEqual(led.deeds, tuple(lead_deed(land, cell, deed) for deed in history))
        for two, state in zip(history.states(), led.states()):
            self.assertIs(state.is_open(cell), two.is_open(0))
            standing = two.standing(0, 1)
            words = [state.standing(cell, b) for b in land.others(cell)]
            self.assertTrue(set(words) <= {standing, "none"})
            self.assertIn(standing, words)

    def test_drawn_histories(self):
        source = random.Random(111)
        for number in range(192):
            custom = custom_at(number)
            if not custom.uses("beside"):
                history = History(PAIR, custom, some_deeds(source, PAIR, custom, 9))
                for land in LANDS:
                    for cell in range(land.cells):
                        if not land.is_road(cell):
                            self.check(history, land, cell)

    def test_the_first_of_several_errors(self):
        beside = Custom("stay", "die", "beside", "beside", "never")
        for land in (ROW, RING, CHAIN, HOUSE, Land(2, [(0, 1)], [0])):
            self.assertEqual(caught(lambda: lead_over(History(land, beside), ROW, 9)), ("NotTwoCells",))
        self.assertEqual(caught(lambda: lead_over(History(PAIR, beside), ROW, 9)), ("NeedsLand", "sold"))
        one = beside.changed("sold", "all")
        self.assertEqual(caught(lambda: lead_over(History(PAIR, one), ROW, 9)), ("NeedsLand", "kept"))
        one = beside.changed("kept", "need")
        self.assertEqual(caught(lambda: lead_over(History(PAIR, one), ROW, 9)), ("NeedsLand", "sold"))
        history = History(probe_land("bound"), EXAMPLE)
        for thing in (-1, 3, *NO_NUMBERS):
            self.assertEqual(caught(lambda: lead_over(history, ROW, thing)), ("BadCell", thing))
        self.assertEqual(caught(lambda: lead_over(history, ROW, 0)), ("RoadCell", 0))
        self.assertEqual(caught(lambda: lead_over(history, RING, 2)), ("RoadCell", 2))
        self.assertEqual(lead_over(history, ROW, 2), History(ROW, EXAMPLE))

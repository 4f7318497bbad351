"""[3.2], [3.4]: the shape of deeds, what hinders them, and what they bear on."""

import random
import unittest

from helpers import LANDS, NO_NUMBERS, ROW, caught, some_deed, some_histories
from landways.counted import Counted, counteds
from landways.deeds import (deed_fault, hands_after, is_counted, joined_couples, moved_cells, parted_couples,
                            shape_fault, shaped, untold_couples)
from landways.lands import MOST_HAND, Land
from landways.states import State, start_state

LINE = Land(4, [(0, 1), (1, 2), (2, 3)], [0])
NO_LOTS = (None, 0, True, "", "0", [], (), [0, 0], [4], [-1], [True], [None], ["0"], {0}, [[0]], range(2))


def line_state(hands, **words):
    """A state of the line with these words: `p01="awake"` at the place (0, 1) and so on."""
    table = [["none"] * 4 for _ in range(4)]
    for place, word in words.items():
        table[int(place[1])][int(place[2])] = word
    return State(LINE, hands, table)


class Shapes(unittest.TestCase):

    def test_right_shapes(self):
        for deed in [("goes", [0], 0, []), ["goes", (3, 1), MOST_HAND, ()], ("goes", [0], 1, [(0, 1), [1, 0]]),
                     ("grant", [0, 1], (1, 2)), ["gives", (2,), [2]], ("goes", [0], 1, [[3, 2], (2, 3), (0, 3)])]:
            self.assertIsNone(shape_fault(LINE, deed))

    def test_no_deed(self):
        for thing in (None, 0, "", "goes", "goes 0", (), [], {}, {"goes"}, (None,), ("go", [0], 1, []), ("goes",),
                      ("goes", [0], 1), ("goes", [0], 1, [], []), ("grant", [0]), ("grant", [0], [1], []),
                      ("gives", [0], 1, []), (["goes"], [0], 1, []), (True, [0], [1]), ([], [0], [1]), ({}, [0], 1, []),
                      ("Goes", [0], 1, []), ("given", [0], [1]), iter(["gives", [0], [1]])):
            self.assertEqual(shape_fault(LINE, thing), "deed", thing)

    def test_wrong_cells(self):
        for thing in NO_LOTS:
            self.assertEqual(shape_fault(LINE, ("goes", thing, None, None)), "cells")
            for word in ("grant", "gives"):
                self.assertEqual(shape_fault(LINE, (word, thing, [1])), "cells")
                self.assertEqual(shape_fault(LINE, (word, [1], thing)), "cells")
                self.assertEqual(shape_fault(LINE, (word, thing, thing)), "cells")

    def test_wrong_hands(self):
        for thing in (-1, MOST_HAND + 1, *NO_NUMBERS):
            self.assertEqual(shape_fault(LINE, ("goes", [0], thing, None)), "hand")

    def test_wrong_told(self):
        for thing in (None, 0, "", "01", {(0, 1)}, [(0,)], [(0, 1, 2)], [(0, 0)], [(0, 4)], [0, 1], ["01"], [None],
                      [(0, True)], [(-1, 0)], [(0, 1), (0, 1)], [(0, 1), [0, 1]], [(0, 1), (1, 0), [1, 0]], [{0, 1}]):
            self.assertEqual(shape_fault(LINE, ("goes", [0], 1, thing)), "told", thing)

    def test_shaped(self):
        deed = ["goes", [3, 0, 1], 10 ** 30, [[2, 1], (0, 3), [0, 1]]]
        self.assertEqual(shaped(deed), ("goes", (0, 1, 3), 10 ** 30, ((0, 1), (0, 3), (2, 1))))
        self.assertEqual(deed, ["goes", [3, 0, 1], 10 ** 30, [[2, 1], (0, 3), [0, 1]]])
        self.assertEqual(shaped(("goes", (0,), 1, [])), ("goes", (0,), 1, ()))
        self.assertEqual(shaped(["grant", [2, 1], [3, 0]]), ("grant", (1, 2), (0, 3)))
        self.assertEqual(shaped(("gives", (2,), [3])), ("gives", (2,), (3,)))
        self.assertIsInstance(shaped(deed)[3][0], tuple)


class Faults(unittest.TestCase):

    def test_the_words_of_the_shape_come_first(self):
        state = line_state([0, 0, 1, 1])
        self.assertEqual(deed_fault(state, None), "deed")
        self.assertEqual(deed_fault(state, ("goes", [], 0, [])), "cells")
        self.assertEqual(deed_fault(state, ("goes", [0], True, [])), "hand")
        self.assertEqual(deed_fault(state, ("goes", [0], 0, [(0, 0)])), "told")
        self.assertEqual(deed_fault(state, ("grant", [0, 2], [4])), "cells")

    def test_still(self):
        state = line_state([0, 0, 1, 1])
        self.assertEqual(deed_fault(state, ("goes", [0, 1], 0, [])), "still")
        self.assertEqual(deed_fault(state, ("goes", [2], 1, [(0, 1)])), "still")
        self.assertIsNone(deed_fault(state, ("goes", [0, 2], 1, [])))
        self.assertIsNone(deed_fault(state, ("goes", [0, 2], 5, [])))

    def test_hands_of_grants(self):
        state = line_state([0, 0, 1, 2])
        for word in ("grant", "gives"):
            for cells, others, fault in [([0, 1], [2], None), ([2], [1, 0], None), ([3], [2], None),
                                         ([0, 2], [3], "one"), ([3], [0, 2], "one"), ([0, 2], [0, 2], "one"),
                                         ([0], [1], "same"), ([0], [0], "same"), ([0, 1], [1, 0], "same"),
                                         ([0, 1], [1, 2], "one"), ([0, 1], [1], "same")]:
                self.assertEqual(deed_fault(state, (word, cells, others)), fault)

    def test_a_told_couple_on_which_the_deed_does_not_bear_is_let(self):
        self.assertIsNone(deed_fault(line_state([0, 0, 1, 1]), ("goes", [0], 1, [(2, 3), (3, 2), (0, 1)])))

    def test_deeds_that_cannot_be_done_are_refused(self):
        state = line_state([0, 0, 1, 2])
        asks = [moved_cells, hands_after, parted_couples, joined_couples, untold_couples]
        asks.append(lambda state, deed: is_counted(Counted(False, False, False), state, deed))
        for deed, word in [(None, "deed"), (("goes", [9], 0, []), "cells"), (("goes", [0], None, []), "hand"),
                           (("goes", [0], 0, [1]), "told"), (("goes", [0], 0, []), "still"),
                           (("grant", [0, 2], [3]), "one"), (("gives", [0], [1]), "same")]:
            for ask in asks:
                self.assertEqual(caught(lambda: ask(state, deed)), ("BadDeed", word))


class Bearings(unittest.TestCase):

    def test_a_deed_that_goes(self):
        state = line_state([0, 0, 1, 2], p02="awake", p12="needed", p32="awake", p30="awake", p23="needed")
        deed = ["goes", [3, 2, 1], 1, [[3, 1]]]
        self.assertEqual(moved_cells(state, deed), (1, 3))
        self.assertEqual(hands_after(state, deed), (0, 1, 1, 1))
        self.assertEqual(parted_couples(state, deed), ((0, 1), (1, 0)))
        self.assertEqual(joined_couples(state, deed), ((1, 2), (1, 3), (2, 1), (2, 3), (3, 1), (3, 2)))
        self.assertEqual(untold_couples(state, deed), ())

    def test_untold_couples(self):
        state = line_state([0, 0, 1, 2], p02="awake", p12="needed", p32="awake", p30="awake")
        self.assertEqual(untold_couples(state, ("goes", [2], 5, [])), ((0, 2), (1, 2), (3, 2)))
        self.assertEqual(untold_couples(state, ("goes", [2], 5, [(0, 2), [3, 2], (2, 1)])), ((1, 2),))
        self.assertEqual(untold_couples(state, ("goes", [2], 0, [])), ((3, 2),))
        self.assertEqual(untold_couples(state, ("goes", [2, 3], 5, [])), ((0, 2), (1, 2)))
        self.assertEqual(untold_couples(state, ("goes", [2, 0], 5, [(2, 0)])), ((1, 2), (3, 0), (3, 2)))
        self.assertEqual(untold_couples(state, ("goes", [0, 1], 5, [])), ((3, 0),))
        self.assertEqual(untold_couples(state, ("goes", [3], 5, [])), ())

    def test_deeds_that_do_not_go(self):
        state = line_state([0, 0, 1, 2], p02="awake")
        for word in ("grant", "gives"):
            deed = (word, [1, 0], [2])
            self.assertEqual(hands_after(state, deed), (0, 0, 1, 2))
            for ask in (moved_cells, parted_couples, joined_couples, untold_couples):
                self.assertEqual(ask(state, deed), ())

    def test_couples_as_the_hands_say(self):
        for history in some_histories(17, many=8):
            for index, deed in enumerate(history):
                state = history.state_at(index)
                ahead, behind = state.hands, history.state_at(index + 1).hands
                couples = history.land.couples
                self.assertEqual(hands_after(state, deed), behind)
                self.assertEqual(moved_cells(state, deed),
                                 tuple(a for a in range(history.land.cells) if ahead[a] != behind[a]))
                self.assertEqual(parted_couples(state, deed), tuple(
                    (a, b) for a, b in couples if ahead[a] == ahead[b] and behind[a] != behind[b]))
                self.assertEqual(joined_couples(state, deed), tuple(
                    (a, b) for a, b in couples if ahead[a] != ahead[b] and behind[a] == behind[b]))

    def test_what_is_passed_in_is_left_as_it_is(self):
        deed = ["goes", [2, 0], 5, [[2, 0]]]
        state = line_state([0, 0, 1, 2])
        for ask in (moved_cells, hands_after, parted_couples, joined_couples, untold_couples, deed_fault):
            ask(state, deed)
        self.assertEqual(deed, ["goes", [2, 0], 5, [[2, 0]]])

    def test_faults_and_refusals_agree(self):
        source = random.Random(5)
        for land in LANDS:
            state = start_state(land)
            for _ in range(60):
                deed = some_deed(source, state)
                fault = deed_fault(state, deed)
                expected = None if fault is None else ("BadDeed", fault)
                self.assertEqual(caught(lambda: hands_after(state, deed)), expected)


class CountedDeeds(unittest.TestCase):

    def test_each_sort(self):
        state = line_state([0, 0, 1, 2], p02="awake", p30="needed")
        deeds = [(("goes", [2], 5, []), "untold"), (("goes", [2], 5, [(0, 2)]), None), (("goes", [0], 5, []), "untold"),
                 (("goes", [0], 5, [[3, 0]]), None), (("goes", [2], 0, []), None), (("goes", [3], 5, []), None),
                 (("grant", [0], [2]), "grants"), (("grant", [1], [2, ]), "grants"), (("gives", [0], [2]), "giving_up")]
        for deed, sort in deeds:
            for counted in counteds():
                expected = True if sort is None else getattr(counted, sort)
                self.assertIs(is_counted(counted, state, deed), expected)

    def test_it_hangs_on_the_state_ahead(self):
        deed = ("goes", [1], 1, [])
        self.assertIs(is_counted(Counted(untold=False), start_state(ROW), deed), True)

"""[3.5]: histories."""

import unittest

import oracle
from helpers import CHAIN, NO_NUMBERS, PAIR, ROW, caught, some_histories
from landways.counted import Counted, counteds
from landways.customs import Custom
from landways.deeds import is_counted, shaped
from landways.histories import MOST_DEEDS, History
from landways.playing import after
from landways.states import State, start_state

EXAMPLE = Custom("stay", "sleep", "none", "need", "free")
DEEDS = [("goes", [2], 1, []), ("grant", [2], [0, 1]), ("goes", [2], 0, []), ("goes", [1], 2, [])]
PLAIN = (("goes", (2,), 1, ()), ("grant", (2,), (0, 1)), ("goes", (2,), 0, ()), ("goes", (1,), 2, ()))


def example():
    return History(ROW, EXAMPLE, DEEDS)


def to_and_fro(many):
    """So many deeds of two cells."""
    return [("goes", [0], 1 - k % 2, []) for k in range(many)]


class Making(unittest.TestCase):

    def test_the_example(self):
        history = example()
        self.assertEqual([state.shut for state in history.states()], [(), (2,), (), (), (1,)])
        self.assertEqual(history.state.standings, (("none",) * 3, ("none",) * 3, ("asleep", "awake", "none")))
        self.assertEqual(history.state.hands, (0, 2, 0))

    def test_attributes(self):
        history = example()
        self.assertEqual((history.land, history.custom, history.deeds), (ROW, EXAMPLE, PLAIN))
        for deed in history.deeds:
            self.assertEqual({type(part) for part in (deed, deed[1])}, {tuple})
        self.assertEqual(History(ROW, EXAMPLE).deeds, ())

    def test_deeds_come_out_shaped(self):
        history = History(ROW, EXAMPLE, (["goes", [2, 1], 5, [[2, 0], (0, 1)]], ["grant", (2, 1), [0]]))
        self.assertEqual(history.deeds, (("goes", (1, 2), 5, ((0, 1), (2, 0))), ("grant", (1, 2), (0,))))

    def test_lists_that_are_changed_later(self):
        deeds = [["goes", [2], 1, [[0, 1]]], ["grant", [2], [0, 1]]]
        history = History(ROW, EXAMPLE, deeds)
        deeds[0][1][0] = 1
        deeds[0][3][0][0] = 2
        deeds.pop()
        self.assertEqual(history.deeds, (("goes", (2,), 1, ((0, 1),)), ("grant", (2,), (0, 1))))

    def test_lists_are_left_as_they_are(self):
        deeds = [["goes", [2, 1], 1, [[1, 0], [0, 1]]]]
        History(ROW, EXAMPLE, deeds)
        self.assertEqual(deeds, [["goes", [2, 1], 1, [[1, 0], [0, 1]]]])

    def test_what_is_no_land_and_no_custom(self):
        for thing in (None, 3, "land", EXAMPLE, start_state(ROW)):
            self.assertEqual(caught(lambda: History(thing, None, None)), ("BadHistory", 0, "land"))
        for thing in (None, 39, EXAMPLE.row, "custom", ROW):
            self.assertEqual(caught(lambda: History(ROW, thing, None)), ("BadHistory", 0, "custom"))

    def test_what_is_no_sequence(self):
        for thing in (None, 0, "", "goes", {}, set(), iter(DEEDS), range(0), example()):
            self.assertEqual(caught(lambda: History(ROW, EXAMPLE, thing)), ("BadHistory", 0, "deeds"))

    def test_many_deeds(self):
        self.assertEqual(MOST_DEEDS, 10000)
        most = History(PAIR, EXAMPLE, to_and_fro(MOST_DEEDS))
        self.assertEqual(len(most), 10000)
        self.assertEqual(most.state.hands, (0, 0))
        self.assertEqual(caught(lambda: most.then(None)), ("BadHistory", 10000, "many"))
        for deeds in (to_and_fro(10001), [None] * 10001):
            self.assertEqual(caught(lambda: History(PAIR, EXAMPLE, deeds)), ("BadHistory", 10000, "many"))

    def test_the_first_wrong_deed(self):
        for deed, word in [(None, "deed"), ("goes", "deed"), (("goes", [3], 0, []), "cells"),
                           (("goes", [1], True, []), "hand"), (("goes", [1], 2, [(0, 0)]), "told"),
                           (("goes", [0, 1], 0, []), "still"), (("grant", [1, 2], [0]), "one"),
                           (("gives", [0], [1]), "same")]:
            self.assertEqual(caught(lambda: History(ROW, EXAMPLE, [DEEDS[0], deed, None])), ("BadHistory", 1, word))
        self.assertEqual(caught(lambda: History(ROW, EXAMPLE, [None])), ("BadHistory", 0, "deed"))

    def test_len_iteration_equal(self):
        history = example()
        self.assertEqual(len(history), 4)
        self.assertEqual(tuple(history), PLAIN)
        self.assertEqual(list(history), list(history.deeds))
        self.assertTrue(history == History(ROW, EXAMPLE, tuple(PLAIN)))
        self.assertFalse(history == history.until(3))
        self.assertFalse(history == History(ROW, EXAMPLE.changed("ends", "never"), DEEDS))
        self.assertFalse(History(ROW, EXAMPLE) == History(PAIR, EXAMPLE))
        self.assertFalse(history == History(ROW, EXAMPLE, [("goes", [2], 7, []), *DEEDS[1:]]))
        for thing in (None, PLAIN, list(PLAIN), ROW, history.state):
            self.assertFalse(history == thing)


class Asking(unittest.TestCase):

    def test_states(self):
        for history in some_histories(5, many=7):
            states = list(history.states())
            self.assertEqual(len(states), len(history) + 1)
            self.assertEqual(states[0], start_state(history.land))
            for many, deed in enumerate(history):
                state = after(history.custom, states[many], deed)
                self.assertEqual((state.hands, state.standings), (states[many + 1].hands, states[many + 1].standings))
                self.assertEqual(history.state_at(many), states[many])
            self.assertEqual(history.state, states[-1])
            self.assertEqual(history.state_at(len(history)), history.state)

    def test_a_history_without_deeds(self):
        history = History(CHAIN, EXAMPLE, [])
        self.assertEqual((len(history), list(history), history.state), (0, [], start_state(CHAIN)))
        self.assertEqual(history.until(0), history)
        self.assertEqual(history.then(), history)
        self.assertIs(history.is_counted(Counted(False, False, False)), True)
        self.assertIsNone(history.first_shut(4))

    def test_until(self):
        history = example()
        for many in range(5):
            part = history.until(many)
            self.assertEqual(part, History(ROW, EXAMPLE, DEEDS[:many]))
            self.assertEqual(part.state, history.state_at(many))

    def test_wrong_numbers_of_deeds(self):
        history = example()
        for thing in (-1, 5, 10 ** 30, *NO_NUMBERS):
            self.assertEqual(caught(lambda: history.until(thing)), ("NoDeed", thing))
            self.assertEqual(caught(lambda: history.state_at(thing)), ("NoDeed", thing))

    def test_then(self):
        history = example()
        self.assertEqual(History(ROW, EXAMPLE).then(*DEEDS), history)
        self.assertEqual(history.until(2).then(*DEEDS[2:]), history)
        self.assertEqual(history.until(2).then(DEEDS[2]).then(DEEDS[3]), history)
        self.assertEqual(len(history), 4)
        self.assertEqual(caught(lambda: history.then(DEEDS[3])), ("BadHistory", 4, "still"))
        self.assertEqual(caught(lambda: history.then(("goes", [0], 3, []), None)), ("BadHistory", 5, "deed"))

    def test_first_shut(self):
        history = example()
        self.assertEqual([history.first_shut(cell) for cell in range(3)], [None, 4, 1])
        self.assertEqual([history.until(3).first_shut(cell) for cell in range(3)], [None, None, 1])
        for thing in (-1, 3, *NO_NUMBERS):
            self.assertEqual(caught(lambda: history.first_shut(thing)), ("BadCell", thing))

    def test_first_shut_as_told_again(self):
        for history in some_histories(12, many=7):
            land = history.land
            for cell in range(land.cells):
                found = None
                for many, state in enumerate(history.states()):
                    rights = {(a, b): state.standings[a][b] for a, b in land.couples}
                    if not oracle.is_open(land, cell, oracle.passing(state.hands, rights, cell)):
                        found = many
                        break
                self.assertEqual(history.first_shut(cell), found)

    def test_is_counted(self):
        history = example()
        self.assertIs(history.is_counted(Counted()), True)
        self.assertIs(history.is_counted(Counted(grants=False)), False)
        self.assertIs(history.until(1).is_counted(Counted(False, False)), True)
        self.assertIs(history.is_counted(Counted(untold=False)), True)
        longer = history.until(2).then(("goes", [0], 3, []))
        self.assertIs(longer.is_counted(Counted()), True)
        self.assertIs(longer.is_counted(Counted(untold=False)), False)
        longer = history.until(2).then(("goes", [0], 3, [(2, 0)]), ("gives", [2], [0]))
        self.assertIs(longer.is_counted(Counted()), False)
        self.assertIs(longer.is_counted(Counted(untold=False, giving_up=True)), True)

    def test_is_counted_deed_by_deed(self):
        for history in some_histories(9, many=5):
            for counted in counteds():
                each = [is_counted(counted, history.state_at(k), deed) for k, deed in enumerate(history)]
                self.assertIs(history.is_counted(counted), all(each))

    def test_large_hands_and_hands_that_come_again(self):
        deeds = [("goes", [2], 10 ** 30, []), ("goes", [1], 10 ** 30, []), ("goes", [1, 2], 0, []),
                 ("goes", [2], 10 ** 30, [])]
        history = History(ROW, EXAMPLE, deeds)
        self.assertEqual(history.deeds, tuple(shaped(deed) for deed in deeds))
        self.assertEqual(history.state, State(ROW, [0, 0, 1], [["none"] * 3] * 3))
        self.assertEqual(history.until(3).state.hands, (0, 0, 0))

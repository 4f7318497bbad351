"""[3.1]: states."""

import unittest

import oracle
from helpers import CHAIN, LANDS, NO_NUMBERS, PAIR, RING, ROW, caught, some_histories
from landways.lands import MOST_HAND, Land
from landways.states import State, start_state

NONE = (("none",) * 3,) * 3
NO_SEQUENCES = (None, 0, "", "000", {0, 1, 2}, range(3), {0: 0})


def rows(**places):
    """Rows of three cells with these words: `ab="awake"` at the place (0, 1) and so on."""
    table = [["none"] * 3 for _ in range(3)]
    for place, word in places.items():
        table["abc".index(place[0])]["abc".index(place[1])] = word
    return table


class Making(unittest.TestCase):

    def test_attributes(self):
        state = State(ROW, [7, 0, 7], rows(ab="awake", bc="needed", ac="asleep"))
        self.assertEqual(state.land, ROW)
        self.assertEqual(state.hands, (7, 0, 7))
        self.assertEqual(state.standings, (("none", "awake", "asleep"), ("none", "none", "needed"), ("none",) * 3))

    def test_what_is_no_land(self):
        for thing in (None, 3, "land", (3, ((0, 1), (1, 2)), (0,)), start_state(ROW)):
            self.assertEqual(caught(lambda: State(thing, None, None)), ("BadState", "land"))
            self.assertEqual(caught(lambda: start_state(thing)), ("BadState", "land"))

    def test_wrong_hands(self):
        for thing in (*NO_SEQUENCES, [], [0, 0], [0, 0, 0, 0], [0, 0, -1], [0, 0, MOST_HAND + 1]):
            self.assertEqual(caught(lambda: State(ROW, thing, None)), ("BadState", "hands"), thing)
        for thing in NO_NUMBERS:
            self.assertEqual(caught(lambda: State(ROW, [0, thing, 0], None)), ("BadState", "hands"))
        self.assertEqual(State(ROW, [0, MOST_HAND, 0], NONE).hand(1), 10 ** 30)

    def test_wrong_standings(self):
        for thing in (*NO_SEQUENCES, [], NONE[:2], NONE + NONE[:1], [*NONE[:2], None], [*NONE[:2], "none"],
                      [*NONE[:2], ["none"] * 2], [*NONE[:2], ["none"] * 4], [*NONE[:2], {"none"}],
                      [NONE[0], ("none", "awake", "none"), NONE[2]], [NONE[0], ("none", "asleep", "none"), NONE[2]]):
            self.assertEqual(caught(lambda: State(ROW, [0, 1, 2], thing)), ("BadState", "standings"), thing)
        for word in ("", "None", "own", None, 0, True, ["none"], {}):
            self.assertEqual(caught(lambda: State(ROW, [0, 1, 2], rows(ab=word))), ("BadState", "standings"))

    def test_rights_in_the_wrong_place(self):
        self.assertEqual(caught(lambda: State(ROW, [0, 1, 1], rows(ab="asleep"))), ("BadState", "asleep"))
        self.assertEqual(caught(lambda: State(ROW, [0, 1, 1], rows(ca="asleep"))), ("BadState", "asleep"))
        for word in ("awake", "needed"):
            self.assertEqual(caught(lambda: State(ROW, [0, 1, 1], rows(bc=word))), ("BadState", "awake"))
            self.assertEqual(caught(lambda: State(ROW, [0, 1, 1], rows(bc=word, ca="asleep"))), ("BadState", "asleep"))

    def test_lists_that_are_changed_later(self):
        hands, table = [0, 1, 1], rows(ab="awake")
        state = State(ROW, hands, table)
        hands[0] = 5
        table[0][1] = "none"
        table.pop()
        self.assertEqual((state.hands, state.standings[0]), ((0, 1, 1), ("none", "awake", "none")))
        self.assertTrue(all(isinstance(row, tuple) for row in state.standings))

    def test_start(self):
        for land in LANDS:
            state = start_state(land)
            many = land.cells
            self.assertEqual((state.land, state.hands, state.standings), (land, (0,) * many, (("none",) * many,) * many))
            self.assertEqual((state.shut, state.lots), ((), (tuple(range(many)),)))


class Asking(unittest.TestCase):

    def setUp(self):
        self.state = State(ROW, [7, 0, 7], rows(ab="awake", bc="needed", ac="asleep"))

    def test_hands_and_standings(self):
        state = self.state
        self.assertEqual([state.hand(a) for a in range(3)], [7, 0, 7])
        for a in range(3):
            for b in range(3):
                self.assertEqual(state.standing(a, b), state.standings[a][b])
        self.assertEqual(state.standing(1, 1), "none")

    def test_own_and_passed_cells(self):
        state = self.state
        self.assertEqual([state.own_cells(a) for a in range(3)], [(0, 2), (1,), (0, 2)])
        self.assertEqual([state.passing(a) for a in range(3)], [(0, 1, 2), (1, 2), (0, 2)])
        for a in range(3):
            for b in range(3):
                self.assertIs(state.is_own(a, b), b in state.own_cells(a))
                self.assertIs(state.passes(a, b), b in state.passing(a))
        self.assertIs(state.is_own(1, 1), True)
        self.assertIs(state.passes(1, 1), True)

    def test_open_and_shut(self):
        self.assertEqual([self.state.is_open(a) for a in range(3)], [True, False, False])
        self.assertEqual(self.state.shut, (1, 2))
        self.assertEqual(State(ROW, [0, 1, 2], rows(cb="needed", ca="awake", ba="awake")).shut, ())
        self.assertEqual(State(ROW, [0, 1, 2], rows(cb="needed", ba="awake")).shut, (2,))
        self.assertEqual(State(CHAIN, [0, 1, 2, 3, 4], [["none"] * 5] * 5).shut, (1, 2, 3, 4))

    def test_lots(self):
        self.assertEqual(self.state.lots, ((0, 2), (1,)))
        self.assertEqual(State(RING, [5, 1, 0, 1], [["none"] * 4] * 4).lots, ((0,), (1, 3), (2,)))

    def test_what_is_no_cell(self):
        state = self.state
        for thing in (-1, 3, *NO_NUMBERS):
            for ask in (state.hand, state.own_cells, state.passing, state.is_open):
                self.assertEqual(caught(lambda: ask(thing)), ("BadCell", thing))
            for ask in (state.standing, state.is_own, state.passes):
                self.assertEqual(caught(lambda: ask(thing, 9)), ("BadCell", thing))
                self.assertEqual(caught(lambda: ask(0, thing)), ("BadCell", thing))

    def test_equal_under_other_hands(self):
        table = rows(ab="awake")
        self.assertTrue(State(ROW, [0, 1, 0], table) == State(ROW, (9, 0, 9), table))
        self.assertFalse(State(ROW, [0, 1, 0], NONE) == State(ROW, [0, 1, 1], NONE))
        self.assertFalse(State(ROW, [0, 1, 0], NONE) == State(ROW, [0, 1, 0], table))
        self.assertFalse(State(ROW, [0, 1, 0], NONE) == State(Land(3, ROW.neighbours, [1]), [0, 1, 0], NONE))
        for thing in (None, (ROW, (0, 0, 0), NONE), ROW, "state"):
            self.assertFalse(start_state(ROW) == thing)

    def test_states_that_no_history_brings_about(self):
        state = State(PAIR, [3, 4], [["none", "needed"], ["needed", "none"]])
        self.assertEqual((state.shut, state.passing(0), state.passing(1)), ((), (0, 1), (0, 1)))

    def test_open_as_told_again(self):
        for history in some_histories(31, many=8):
            for state in history.states():
                land = state.land
                rights = {(a, b): state.standings[a][b] for a, b in land.couples}
                for a in range(land.cells):
                    passing = oracle.passing(state.hands, rights, a)
                    self.assertEqual(state.passing(a), tuple(sorted(passing)))
                    self.assertIs(state.is_open(a), oracle.is_open(land, a, passing))
                    self.assertIs(a in state.shut, not state.is_open(a))

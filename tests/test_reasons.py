"""[3.6]: the ledger, reasons, and when cells were shut off."""

import unittest

from helpers import NO_NUMBERS, ROW, caught, some_histories
from landways.customs import Custom
from landways.histories import History
from landways.playing import stages
from landways.reasons import ledger, reason, shuttings

EXAMPLE = Custom("stay", "sleep", "none", "need", "free")
HISTORY = History(ROW, EXAMPLE, [("goes", [2], 1, []), ("grant", [2], [0, 1]), ("goes", [2], 0, []),
                                 ("goes", [1], 2, [])])


class Ledger(unittest.TestCase):

    def test_the_example(self):
        self.assertEqual(list(ledger(HISTORY)), [
            (1, "granted", 2, 0, "none", "awake"), (1, "granted", 2, 1, "none", "awake"),
            (2, "joined", 2, 0, "awake", "asleep"), (2, "joined", 2, 1, "awake", "asleep"),
            (3, "woken", 2, 1, "asleep", "awake")])

    def test_two_changes_in_one_deed(self):
        custom = Custom("die", "sleep", "need", "need", "free")
        history = History(ROW, custom, [("goes", [0], 1, []), ("goes", [2], 1, []), ("goes", [2], 0, [])])
        self.assertEqual(list(ledger(history)), [
            (0, "arisen", 1, 0, "none", "needed"), (0, "arisen", 2, 0, "none", "needed"),
            (1, "joined", 2, 0, "needed", "asleep"), (1, "arisen", 2, 1, "none", "needed"),
            (2, "joined", 2, 1, "needed", "asleep"), (2, "woken", 2, 0, "asleep", "awake")])
        history = History(ROW, custom, [("goes", [0], 1, []), ("goes", [0], 2, [])])
        self.assertEqual(list(ledger(history))[2:], [
            (1, "untold", 1, 0, "needed", "none"), (1, "untold", 2, 0, "needed", "none")])

    def test_it_is_a_generator(self):
        self.assertEqual(next(ledger(HISTORY)), (1, "granted", 2, 0, "none", "awake"))
        self.assertEqual(list(ledger(History(ROW, EXAMPLE))), [])

    def test_rows_as_the_stages_say(self):
        for history in some_histories(4, many=8):
            expected = []
            for index, deed in enumerate(history):
                old = history.state_at(index).standings
                for stage, _, new in stages(history.custom, history.state_at(index), deed):
                    expected += [(index, stage, a, b, old[a][b], new[a][b]) for a, b in sorted(history.land.couples)
                                 if old[a][b] != new[a][b]]
                    old = new
            self.assertEqual(list(ledger(history)), expected)


class Reasons(unittest.TestCase):

    def test_the_example(self):
        self.assertEqual(reason(HISTORY, 2, 1), (3, "woken"))
        self.assertEqual(reason(HISTORY, 2, 0), (2, "joined"))
        self.assertIsNone(reason(HISTORY, 1, 2))
        self.assertEqual(reason(HISTORY.until(2), 2, 0), (1, "granted"))

    def test_the_last_row_counts(self):
        for history in some_histories(6, many=8):
            rows = list(ledger(history))
            for a, b in history.land.couples:
                mine = [row[:2] for row in rows if row[2:4] == (a, b)]
                self.assertEqual(reason(history, a, b), mine[-1] if mine else None)

    def test_a_cell_with_itself(self):
        for cell in range(3):
            self.assertIsNone(reason(HISTORY, cell, cell))

    def test_what_is_no_cell(self):
        for thing in (-1, 3, *NO_NUMBERS):
            self.assertEqual(caught(lambda: reason(HISTORY, thing, 9)), ("BadCell", thing))
            self.assertEqual(caught(lambda: reason(HISTORY, 0, thing)), ("BadCell", thing))
            self.assertEqual(caught(lambda: reason(HISTORY, thing, thing)), ("BadCell", thing))


class Shuttings(unittest.TestCase):

    def test_the_example(self):
        self.assertEqual(list(shuttings(HISTORY)), [(1, 2), (4, 1)])
        self.assertEqual(list(shuttings(History(ROW, EXAMPLE))), [])

    def test_shut_off_again(self):
        custom = Custom("stay", "die", "none", "none", "never")
        history = History(ROW, custom, [("goes", [0], 1, []), ("goes", [0], 0, []), ("goes", [1, 2], 3, [])])
        self.assertEqual(list(shuttings(history)), [(1, 1), (1, 2), (3, 1), (3, 2)])

    def test_as_the_states_say(self):
        for history in some_histories(7, many=9):
            states = list(history.states())
            expected = [(many, cell) for many in range(1, len(states)) for cell in range(history.land.cells)
                        if not states[many].is_open(cell) and states[many - 1].is_open(cell)]
            self.assertEqual(list(shuttings(history)), expected)

"""[3.7]: a couple followed by itself."""

import unittest

from helpers import NO_NUMBERS, ROW, caught, some_histories
from landways.couplewise import followed
from landways.customs import Custom, customs
from landways.histories import History

PLAIN = Custom("stay", "sleep", "all", "beside", "never")
DEEDS = [("goes", [2], 1, []), ("goes", [0, 2], 2, []), ("goes", [1], 2, []), ("gives", [0], [1]),
         ("goes", [0], 5, [])]
WITHOUT_NEED = [custom.number for custom in customs() if not custom.uses("need")]


def alone(history, a, b):
    """The couple by its two cells, whether they are neighbours, and the deeds, and by nothing else."""
    custom = history.custom
    near = history.land.is_neighbour(a, b)
    one, other, standing = 0, 0, "none"
    rows = [(True, "none")]
    for deed in history:
        if deed[0] != "goes":
            if a in deed[1] and b in deed[2]:
                standing = "awake" if deed[0] == "grant" else "none"
        else:
            alike, moves = one == other, (a in deed[1] and one != deed[2])
            passes_on = b in deed[1] and other != deed[2]
            one = deed[2] if a in deed[1] else one
            other = deed[2] if b in deed[1] else other
            if standing == "awake" and passes_on and one != deed[2] and (a, b) not in deed[3]:
                standing = "awake" if custom.untold == "stay" else "none"
            if standing == "awake" and one == other:
                standing = "asleep" if custom.joined == "sleep" else "none"
            if alike and one != other:
                word = custom.sold if moves else custom.kept
                arises = word == "all" or (word == "beside" and near)
                standing = "awake" if standing == "asleep" or arises else "none"
        rows.append((one == other, standing))
    return tuple(rows)


class Followed(unittest.TestCase):

    def test_rows(self):
        history = History(ROW, PLAIN, DEEDS[:3])
        self.assertEqual(followed(history, 2, 0),
                         ((True, "none"), (False, "awake"), (True, "asleep"), (True, "asleep")))
        self.assertEqual(followed(history, 1, 2),
                         ((True, "none"), (False, "awake"), (False, "awake"), (True, "asleep")))
        self.assertEqual(followed(History(ROW, PLAIN), 0, 1), ((True, "none"),))

    def test_the_couple_alone_tells_it(self):
        for seed in range(3):
            for history in some_histories(seed, WITHOUT_NEED, many=12):
                for a, b in history.land.couples:
                    rows = followed(history, a, b)
                    self.assertEqual(rows, alone(history, a, b))
                    self.assertEqual(rows, tuple((state.is_own(a, b), state.standing(a, b))
                                                 for state in history.states()))

    def test_need(self):
        for custom in customs():
            fault = None
            if custom.kept == "need":
                fault = ("BadCustom", "kept")
            if custom.sold == "need":
                fault = ("BadCustom", "sold")
            history = History(ROW, custom)
            self.assertEqual(caught(lambda: followed(history, 0, 1)), fault)
            self.assertEqual(caught(lambda: followed(history, 7, 7)), fault or ("BadCell", 7))

    def test_what_is_no_cell(self):
        history = History(ROW, PLAIN)
        for thing in (-1, 3, *NO_NUMBERS):
            self.assertEqual(caught(lambda: followed(history, thing, 9)), ("BadCell", thing))
            self.assertEqual(caught(lambda: followed(history, 0, thing)), ("BadCell", thing))
        for cell in range(3):
            self.assertEqual(caught(lambda: followed(history, cell, cell)), ("BadCell", cell))

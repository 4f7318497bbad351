"""[2.4]: which sorts of deeds are counted, and deeds by it."""

import unittest
from itertools import product

from helpers import caught
from landways.counted import Counted, counteds

ROWS = list(product((False, True), repeat=3))
NO_TRUTHS = (0, 1, None, "", "True", [], 1.0, (True,))


def row(counted):
    return (counted.grants, counted.untold, counted.giving_up)


class Counting(unittest.TestCase):

    def test_what_is_left_out(self):
        self.assertEqual(row(Counted()), (True, True, False))
        self.assertEqual(row(Counted(giving_up=True, grants=False)), (False, True, True))

    def test_attributes(self):
        for passed in ROWS:
            for kept, truth in zip(row(Counted(*passed)), passed):
                self.assertIs(kept, truth)

    def test_what_is_neither_true_nor_false(self):
        for thing in NO_TRUTHS:
            self.assertEqual(caught(lambda: Counted(thing, thing, thing)), ("BadCounted", "grants"))
            self.assertEqual(caught(lambda: Counted(True, thing, thing)), ("BadCounted", "untold"))
            self.assertEqual(caught(lambda: Counted(False, False, thing)), ("BadCounted", "giving up"))

    def test_counteds(self):
        self.assertEqual([row(counted) for counted in counteds()], ROWS)
        self.assertEqual(row(next(counteds())), (False, False, False))

    def test_is_within(self):
        for one in ROWS:
            for other in ROWS:
                within = all(b or not a for a, b in zip(one, other))
                self.assertIs(Counted(*one).is_within(Counted(*other)), within)

    def test_equal(self):
        for one in ROWS:
            for other in ROWS:
                self.assertIs(Counted(*one) == Counted(*other), one == other)
        for thing in (None, True, (True, True, False), "counted"):
            self.assertFalse(Counted() == thing)

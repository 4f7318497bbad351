"""[8.7]: words of a clause that make no difference on a land."""

import random
import unittest

from helpers import FORK, PAIR, RING, ROW, VEE, caught, some_counted, tuples_only
from landways.comparing import are_alike
from landways.counted import Counted
from landways.customs import CLAUSES, Custom, custom_at, words
from landways.idle import alike_words, idle_clauses
from landways.twinviews import MEASURES
from test_twinviews import NO_MEASURES

BARE = Custom("stay", "die", "none", "none", "never")
NEED = Custom("needed stay", "die", "need", "need", "never")
NOTHING = Counted(False, False, False)
NO_CLAUSES = (None, True, 0, "", "Sold", "free", ["sold"], ("sold",), {})


class Words(unittest.TestCase):

    def test_against_each_word(self):
        source = random.Random(361)
        for number in range(0, 192, 9):
            land, custom, counted = source.choice((PAIR, ROW, VEE)), custom_at(number), some_counted(source)
            for measure in MEASURES:
                idle = []
                for clause in CLAUSES:
                    expected = tuple(word for word in words(clause)
                                     if are_alike(land, custom, custom.changed(clause, word), counted, measure=measure))
                    self.assertEqual(alike_words(land, custom, clause, counted, measure=measure), expected)
                    self.assertIn(custom.word(clause), expected)
                    idle += [clause] if expected == words(clause) else []
                self.assertEqual(idle_clauses(land, custom, counted, measure=measure), tuple(idle))

    def test_some_by_hand(self):
        self.assertEqual(alike_words(ROW, BARE, "untold", NOTHING), ("stay", "die", "needed stay"))
        self.assertEqual(alike_words(ROW, BARE, "sold", NOTHING), ("none",))
        self.assertEqual(idle_clauses(ROW, BARE, NOTHING), ("untold", "joined", "ends"))
        self.assertEqual(idle_clauses(ROW, BARE), ("ends",))
        # All cells of two are neighbours, and a road cell is open.
        self.assertEqual(alike_words(PAIR, BARE.changed("sold", "all"), "sold", NOTHING), ("all", "beside"))
        self.assertEqual(alike_words(ROW, BARE.changed("sold", "all"), "sold", NOTHING), ("all",))
        self.assertEqual(alike_words(PAIR, NEED, "sold", NOTHING, measure="open"), ("all", "beside", "need"))
        self.assertEqual(alike_words(PAIR, NEED, "ends", NOTHING), ("never", "free"))
        self.assertEqual(alike_words(VEE, NEED, "ends", NOTHING), ("never",))
        self.assertEqual(idle_clauses(VEE, NEED, NOTHING, measure="open"), ("untold", "joined", "ends"))

    def test_left_out_none_by_place_and_by_name(self):
        for told in (alike_words(ROW, NEED, "joined"), alike_words(ROW, NEED, "joined", None),
                     alike_words(land=ROW, custom=NEED, clause="joined", counted=None, measure="standing")):
            self.assertEqual(told, ("die",))
        for told in (idle_clauses(ROW, BARE), idle_clauses(ROW, BARE, None), idle_clauses(land=ROW, custom=BARE, counted=None)):
            self.assertEqual(told, ("ends",))
        with self.assertRaises(TypeError):
            idle_clauses(ROW, BARE, None, "open")
        self.assertTrue(tuples_only((alike_words(ROW, BARE, "ends"), idle_clauses(ROW, BARE))))

    def test_what_is_wrong(self):
        for land in (RING, FORK):
            self.assertEqual(caught(lambda: alike_words(land, BARE, None, measure=None)), ("TooWide", "cells"))
            self.assertEqual(caught(lambda: idle_clauses(land, BARE, measure=None)), ("TooWide", "cells"))
        for thing in NO_MEASURES:
            self.assertEqual(caught(lambda: alike_words(ROW, BARE, None, measure=thing)), ("BadMeasure", thing))
            self.assertEqual(caught(lambda: idle_clauses(ROW, BARE, measure=thing)), ("BadMeasure", thing))
        for thing in NO_CLAUSES:
            self.assertEqual(caught(lambda: alike_words(ROW, BARE, thing)), ("BadClause", "clause"))

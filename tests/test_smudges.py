"""[9.1], [9.2]: smudged registers and their fillings."""

import copy
import unittest

from helpers import NO_NUMBERS, PAIR, RING, ROW, VEE, caught, tuples_only
from landways.customs import Custom, custom_at
from landways.histories import History
from landways.smudges import MOST_FILLINGS, MOST_LOST, Smudged, filled_history, lawful_fillings, number_of_fillings
from registers import filled, findings_of, fillings_told_again, some_registers, some_smudges

DYING = Custom("die", "die", "all", "all", "never")
DEEDS = [("goes", [1], 1, []), ("goes", [1], 2, [])]
GOING = ("goes", [2], 1, [])


class Registers(unittest.TestCase):

    def test_numbers(self):
        self.assertEqual((MOST_LOST, MOST_FILLINGS), (4, 256))

    def test_the_example(self):
        smudged = Smudged(PAIR, DYING, DEEDS, [("told", 1, [(0, 1)])])
        self.assertEqual([findings for findings, _ in lawful_fillings(smudged)], [((),), (((0, 1),),)])
        self.assertEqual([history.state.standing(0, 1) for _, history in lawful_fillings(smudged)], ["none", "awake"])
        self.assertEqual((smudged.many, number_of_fillings(smudged)), (2, 2))

    def test_attributes(self):
        deeds = [["goes", [2, 1], 3, [[1, 0], (0, 2)]], ["grant", [2, 1], [0]], ("goes", (0,), 7, [])]
        smudged = Smudged(ROW, DYING, deeds, [["told", 2, [(2, 1), [1, 0], (0, 1)]], ("hand", 0, [9, 3, 5])])
        self.assertEqual((smudged.land, smudged.custom), (ROW, DYING))
        self.assertEqual(smudged.deeds, (("goes", (2, 1), 3, ((1, 0), (0, 2))), ("grant", (2, 1), (0,)),
                                         ("goes", (0,), 7, ())))
        self.assertEqual(smudged.lost, (("told", 2, ((0, 1), (1, 0), (2, 1))), ("hand", 0, (9, 3, 5))))
        self.assertEqual(smudged.many, 24)
        self.assertTrue({"land", "custom", "deeds", "lost", "many"} <= set(vars(smudged)))
        self.assertTrue(tuples_only((smudged.deeds, smudged.lost)))
        self.assertEqual(Smudged(land=ROW, custom=DYING, deeds=deeds, lost=smudged.lost), smudged)

    def test_without_lost_rows(self):
        for deeds in ([], DEEDS):
            smudged = Smudged(PAIR, DYING, deeds, [])
            self.assertEqual((smudged.many, smudged.lost, number_of_fillings(smudged)), (1, (), 1))
            self.assertEqual(list(lawful_fillings(smudged)), [((), History(PAIR, DYING, deeds))])
            self.assertEqual(filled_history(smudged, []), History(PAIR, DYING, deeds))

    def test_equal_registers(self):
        lost = [("told", 0, [(0, 1), (1, 0)]), ("hand", 1, [3, 2])]
        smudged = Smudged(PAIR, DYING, DEEDS, lost)
        self.assertEqual(smudged, Smudged(PAIR, DYING, tuple(DEEDS), (["told", 0, ((1, 0), [0, 1])], ("hand", 1, (3, 2)))))
        for other in (Smudged(type(PAIR)(2, [(0, 1)], [0]), DYING, DEEDS, lost),
                      Smudged(PAIR, custom_at(0), DEEDS, lost), Smudged(PAIR, DYING, [DEEDS[0], ("goes", [1], 7, [])], lost),
                      Smudged(PAIR, DYING, DEEDS, lost[:1]), Smudged(PAIR, DYING, DEEDS, lost[::-1]),
                      Smudged(PAIR, DYING, DEEDS, [lost[0], ("hand", 1, [2, 3])]), History(PAIR, DYING, DEEDS), None):
            self.assertNotEqual(smudged, other)

    def test_later_changes_of_what_was_passed(self):
        deeds, lost = [["goes", [1], 1, [[0, 1]]], ["goes", [0], 2, []]], [["told", 1, [[1, 0]]], ["hand", 0, [1, 4]]]
        kept = copy.deepcopy((deeds, lost))
        smudged = Smudged(PAIR, DYING, deeds, lost)
        told = list(lawful_fillings(smudged))
        self.assertEqual((deeds, lost), kept)
        deeds[0][3][0][0] = 7
        deeds[0][1].append(0)
        lost[0][2][0][0] = 9
        lost.append("x")
        deeds.clear()
        self.assertEqual((smudged.deeds, smudged.lost), ((("goes", (1,), 1, ((0, 1),)), ("goes", (0,), 2, ())),
                                                         (("told", 1, ((1, 0),)), ("hand", 0, (1, 4)))))
        self.assertEqual(list(lawful_fillings(smudged)), told)


class Fillings(unittest.TestCase):

    def test_drawn_registers(self):
        for k, (land, custom, deeds, lost) in enumerate(some_registers(401)):
            smudged = Smudged(land, custom, deeds, lost)
            expected = fillings_told_again(land, custom, deeds, lost)
            told = list(lawful_fillings(smudged))
            self.assertEqual(told, expected)
            self.assertEqual(number_of_fillings(smudged), len(expected))
            self.assertTrue(tuples_only(tuple(findings for findings, _ in told)))
            for findings, history in expected:
                self.assertEqual(filled_history(smudged, findings), history)

    def test_four_rows(self):
        deeds = [("goes", [2], 1, []), ("goes", [1], 1, []), ("goes", [1, 2], 2, [])]
        lost = [("hand", 1, [1, 3]), ("told", 1, [(0, 1), (2, 1)]), ("told", 2, [(1, 2)]), ("hand", 2, [1, 2, 3])]
        smudged = Smudged(ROW, DYING, deeds, lost)
        self.assertEqual(smudged.many, 48)
        told = list(lawful_fillings(smudged))
        self.assertEqual(told, fillings_told_again(ROW, DYING, deeds, lost))
        # To hand 1 from hand 1 nobody moves.
        self.assertEqual(len(told), 40)
        self.assertEqual(told[0][0], (1, (), (), 2))
        self.assertEqual([findings for findings, _ in told], sorted([findings for findings, _ in told], key=lambda row: (
            row[0], len(row[1]), row[1], len(row[2]), row[3])))

    def test_order_of_findings(self):
        lost = [("told", 0, [(2, 0), (0, 1), (1, 2)])]
        smudged = Smudged(ROW, DYING, [GOING], lost)
        self.assertEqual([findings[0] for findings, _ in lawful_fillings(smudged)],
                         [(), ((0, 1),), ((1, 2),), ((2, 0),), ((0, 1), (1, 2)), ((0, 1), (2, 0)), ((1, 2), (2, 0)),
                          ((0, 1), (1, 2), (2, 0))])
        smudged = Smudged(ROW, DYING, [GOING], [("hand", 0, [5, 0, 2, 10 ** 30])])
        self.assertEqual([findings for findings, _ in lawful_fillings(smudged)], [(5,), (2,), (10 ** 30,)])

    def test_couples_that_are_told_already(self):
        deeds = [("goes", [2], 1, [(1, 2)]), ("goes", [2], 2, [(0, 2)])]
        smudged = Smudged(ROW, DYING, deeds, [("told", 0, [(0, 2), (1, 2)]), ("told", 1, [(0, 2)])])
        told = list(lawful_fillings(smudged))
        self.assertEqual(len(told), 8)
        self.assertEqual([history.deeds[0][3] for _, history in told[::2]],
                         [((1, 2),), ((0, 2), (1, 2)), ((1, 2),), ((0, 2), (1, 2))])
        self.assertEqual({history.deeds[1][3] for _, history in told}, {((0, 2),)})
        self.assertEqual(told[0][1], told[1][1])
        lists = Smudged(ROW, DYING, [["goes", [2], 1, [[1, 2]]], deeds[1]], [("told", 0, [[0, 2], [1, 2]])])
        self.assertEqual([history.deeds[0][3] for _, history in lawful_fillings(lists)],
                         [((1, 2),), ((0, 2), (1, 2)), ((1, 2),), ((0, 2), (1, 2))])

    def test_the_hand_that_stands_there_counts_no_more(self):
        for hand in (0, 1, 2, 10 ** 30):
            smudged = Smudged(ROW, DYING, [("goes", [2], hand, [])], [("hand", 0, [2, 0, 1])])
            self.assertEqual([findings for findings, _ in lawful_fillings(smudged)], [(2,), (1,)])

    def test_fillings_that_are_not_lawful(self):
        deeds = [("goes", [2], 1, []), ("goes", [2], 2, []), ("grant", [2], [1])]
        smudged = Smudged(ROW, DYING, deeds, [("hand", 0, [0, 1, 2]), ("hand", 1, [2, 1, 0])])
        self.assertEqual([findings for findings, _ in lawful_fillings(smudged)], [(1, 2), (2, 1)])
        for findings in [(0, 2), (0, 0), (1, 1), (1, 0), (2, 2), (2, 0)]:
            self.assertEqual(caught(lambda: filled_history(smudged, findings)), ("NoFilling",))

    def test_findings_as_they_may_be_passed(self):
        smudged = Smudged(ROW, DYING, [GOING], [("told", 0, [(0, 1), (0, 2), (1, 2)]), ("hand", 0, [1, 2])])
        for couples in ([(1, 2), (0, 1)], ((0, 1), [1, 2]), [[0, 1], [1, 2]]):
            history = filled_history(smudged, [couples, 2])
            self.assertEqual(history.deeds, (("goes", (2,), 2, ((0, 1), (1, 2))),))
        self.assertEqual(filled_history(smudged, ([], 1)), History(ROW, DYING, [GOING]))
        self.assertEqual(filled_history(smudged=smudged, findings=((), 1)), History(ROW, DYING, [GOING]))

    def test_findings_that_are_none(self):
        smudged = Smudged(ROW, DYING, [GOING], [("told", 0, [(0, 1), (1, 0)]), ("hand", 0, [1, 2, 0])])
        for thing in (None, True, 2, "ab", (), [()], [(), 1, 1], {0: (), 1: 1}, {0, 1}):
            self.assertEqual(caught(lambda: filled_history(smudged, thing)), ("BadFinding", "findings"))
        for couples in (None, 0, "01", (0, 1), [(0, 2)], [(0, 1), (0, 1)], [(0, 1), [0, 1]], [(True, 0)], [(0, False)],
                        [(0, 1, 0)], [None], ["01"], {(0, 1): 1}, [(0, 1), (2, 1)], [(1, 0), 5]):
            for hand in (1, 0, None):
                self.assertEqual(caught(lambda: filled_history(smudged, [couples, hand])), ("BadFinding", "finding"))
        for hand in (3, -1, *NO_NUMBERS, [1]):
            self.assertEqual(caught(lambda: filled_history(smudged, [[], hand])), ("BadFinding", "finding"))
        self.assertEqual(caught(lambda: filled_history(smudged, [[], 0])), ("NoFilling",))

    def test_each_once(self):
        for smudged, expected in some_smudges(402, range(0, 192, 5)):
            told = [findings for findings, _ in lawful_fillings(smudged)]
            self.assertEqual(len(told), len(set(told)))
            self.assertEqual([findings for findings, _ in expected], told)
            many = 1
            for row in smudged.lost:
                many *= len(findings_of(row))
            self.assertEqual(smudged.many, many)
            for findings, history in lawful_fillings(smudged):
                self.assertEqual(History(smudged.land, smudged.custom, filled(smudged.deeds, smudged.lost, findings)), history)


def fault(land=ROW, custom=DYING, deeds=(GOING,), lost=()):
    return caught(lambda: Smudged(land, custom, deeds, lost))


class WrongRegisters(unittest.TestCase):

    def test_parts_in_order(self):
        for thing in (None, 0, True, "row", (3, (), ()), DYING):
            self.assertEqual(fault(land=thing, custom=None, deeds=None, lost=None), ("BadSmudge", 0, "land"))
        for thing in (None, 0, True, "stay", DYING.row, ROW):
            self.assertEqual(fault(custom=thing, deeds=None, lost=None), ("BadSmudge", 0, "custom"))
        for thing in (None, 0, True, "goes", {}, set()):
            self.assertEqual(fault(deeds=thing, lost=None), ("BadSmudge", 0, "deeds"))
        for thing in (None, 0, True, "told", {}, set(), [("hand", 0, [1])] * 5, [None] * 5):
            self.assertEqual(fault(lost=thing), ("BadSmudge", 0, "lost"))
            self.assertEqual(fault(deeds=[None], lost=thing), ("BadSmudge", 0, "lost"))
        self.assertEqual(fault(lost=[None] * 4), ("BadSmudge", 0, "row"))

    def test_row(self):
        right = ("hand", 0, [1, 2])
        for row in (None, 0, True, "told", "abc", (), ("told", 0), ("hand", 0, [1], 1), ("tell", 9, None), (0, 0, [1]),
                    ({}, 0, [1]), {0: "told", 1: 0, 2: []}, ("goes", 0, [1]), (["hand"], 0, [1])):
            self.assertEqual(fault(lost=[row]), ("BadSmudge", 0, "row"))
            self.assertEqual(fault(lost=[right, row]), ("BadSmudge", 1, "row"))

    def test_deed(self):
        deeds = [GOING, ("grant", [2], [1]), None, ("goes", [1], 2), ("goes", [1], 2, [], []), "goes", ["goes", 1, 2, 3],
                 {"goes": 1}, (None, 1, 2, 3)]
        for index in (-1, 9, 1, 2, 3, 4, 5, 7, 8, *NO_NUMBERS):
            for word, things in (("told", None), ("hand", None), ("told", [(0, 1)]), ("hand", [1])):
                self.assertEqual(fault(deeds=deeds, lost=[(word, index, things)]), ("BadSmudge", 0, "deed"))
        self.assertEqual(fault(deeds=deeds, lost=[("hand", 6, None)]), ("BadSmudge", 0, "hands"))
        self.assertEqual(fault(deeds=[], lost=[("hand", 0, [1])]), ("BadSmudge", 0, "deed"))

    def test_couples_and_hands(self):
        for couples in (None, 0, True, "01", (), [], [(0, 3)], [(0, 0)], [(0, 1), (0, 1)], [(0, 1), [0, 1]], [(True, 0)],
                        [0, 1], (0, 1), [(0, 1, 2)], ["01"], {(0, 1)}, [None], [(0, -1)], [(0, 1), None]):
            self.assertEqual(fault(lost=[("told", 0, couples)]), ("BadSmudge", 0, "couples"))
        for hands in (None, 0, 1, True, "1", (), [], [1, 1], [True], [1, False], [-1], [10 ** 30 + 1], [None], [[1]], {1},
                      ["1"], [1.0]):
            self.assertEqual(fault(lost=[("hand", 0, hands)]), ("BadSmudge", 0, "hands"))

    def test_double(self):
        deeds = [GOING, ("goes", [1], 2, [])]
        for word, things, others in (("told", [(0, 1)], [(1, 0)]), ("hand", [1], [2])):
            rows = [(word, 1, things), (word, 0, things), [word, 1, others]]
            self.assertEqual(fault(deeds=deeds, lost=rows), ("BadSmudge", 2, "double"))
            self.assertEqual(fault(deeds=deeds, lost=[rows[0], (word, 1, ())])[2], "couples" if word == "told" else "hands")
        both = [("told", 0, [(0, 1)]), ("hand", 0, [1]), ("told", 1, [(0, 1)]), ("hand", 1, [2])]
        self.assertIsNone(fault(deeds=deeds, lost=both))

    def test_all_words_for_one_row_ahead_of_the_next(self):
        rows = [("told", 0, [(0, 1)]), ("told", 0, [(0, 2)]), None]
        self.assertEqual(fault(lost=rows), ("BadSmudge", 1, "double"))
        self.assertEqual(fault(lost=[("hand", 0, [])] + rows), ("BadSmudge", 0, "hands"))
        self.assertEqual(fault(lost=[("hand", 0, [1]), ("told", 7, None), None]), ("BadSmudge", 1, "deed"))

    def test_too_many(self):
        couples = list(RING.couples)
        going = [("goes", [2], 1, []), ("goes", [1], 2, [])]
        self.assertIsNone(fault(RING, deeds=going, lost=[("told", 0, couples[:8])]))
        self.assertEqual(fault(RING, deeds=going, lost=[("told", 0, couples[:9])]), ("TooMany", 512))
        self.assertEqual(fault(RING, deeds=going, lost=[("told", 0, couples[:8]), ("hand", 0, [1])]), None)
        self.assertEqual(fault(RING, deeds=going, lost=[("told", 0, couples[:8]), ("hand", 0, [1, 2])]), ("TooMany", 512))
        self.assertEqual(fault(RING, deeds=going, lost=[("told", 0, couples), ("told", 1, couples)]), ("TooMany", 2 ** 24))
        self.assertIsNone(fault(lost=[("hand", 0, list(range(1, 257)))]))
        self.assertEqual(fault(lost=[("hand", 0, list(range(1, 258)))]), ("TooMany", 257))
        # Ahead of "no filling", behind all words of the rows.
        self.assertEqual(fault(deeds=[GOING, None], lost=[("hand", 0, list(range(300)))]), ("TooMany", 300))
        self.assertEqual(fault(lost=[("hand", 0, list(range(300))), None]), ("BadSmudge", 1, "row"))

    def test_no_filling(self):
        self.assertEqual(fault(lost=[("hand", 0, [0])]), ("NoFilling",))
        self.assertEqual(fault(deeds=[("goes", [2], 0, [])]), ("NoFilling",))
        for deed in (None, 0, True, "goes", (), {}, ("goes",), ("goes", [3], 2, []), ("goes", [1], True, []), object(),
                     ("goes", [1], 2, [(0, 0)]), ("grant", [1], [0]), ("goes", 1, 2, 3), ["gives", [2], [2]]):
            self.assertEqual(fault(deeds=[GOING, deed]), ("NoFilling",))
            self.assertEqual(fault(deeds=[GOING, deed], lost=[("told", 0, [(0, 1)]), ("hand", 0, [1, 2])]), ("NoFilling",))

    def test_a_deed_that_is_wrong_in_another_place(self):
        for deed in (("goes", [3], 1, []), ("goes", [], 1, []), ("goes", None, 1, []), ("goes", [2], 1, None),
                     ("goes", [2], 1, 5), ("goes", [2], 1, [5]), ("goes", [2], 1, [(0, 1), (0, 1)]),
                     ("goes", [2], 1, [(0, 1), [0, 1]]), ("goes", [2], 1, [(True, 0)]), ("goes", [2], 1, "01"),
                     ("goes", [2], 1, [(0, 3)]), ("goes", [2], 1, {(0, 1)})):
            for lost in ([("told", 0, [(0, 1), (1, 0)])], [("hand", 0, [1, 2])],
                         [("hand", 0, [1, 2]), ("told", 0, [(1, 0)])]):
                self.assertEqual(fault(deeds=[deed], lost=lost), ("NoFilling",))
        for hand in (-1, True, None, "1", 10 ** 31):
            self.assertEqual(fault(deeds=[("goes", [2], hand, [])], lost=[("told", 0, [(0, 1)])]), ("NoFilling",))

    def test_a_road_does_not_matter(self):
        self.assertIsNone(fault(VEE, deeds=[("goes", [1], 1, [])], lost=[("told", 0, [(1, 2)])]))

"""[2.6]: the texts of deeds and of histories."""

import unittest

from helpers import HOUSE, PAIR, ROW, caught, some_histories
from landways.customs import Custom, custom_at
from landways.customtext import custom_text
from landways.deeds import shaped
from landways.deedtext import deed_text, history_text, parse_deed, parse_history
from landways.histories import MOST_DEEDS, History

EXAMPLE = Custom("stay", "sleep", "none", "need", "free")
HISTORY = History(ROW, EXAMPLE, [("goes", [2], 1, []), ("grant", [2], [0, 1]), ("goes", [2], 0, [(2, 1), (0, 2)]),
                                 ("goes", [1], 2, [])])
LAND_ROWS = ["cells 3", "roads 0", "next 0 1", "next 1 2"]
CUSTOM_ROW = "custom untold stay; joined sleep; sold none; kept need; ends free"
DEED_ROWS = ["goes 2 to 1", "grant 2 over 0 1", "goes 2 to 0 told 0>2 2>1", "goes 1 to 2"]
ROWS = LAND_ROWS + [CUSTOM_ROW] + DEED_ROWS
TEXT = "\n".join(ROWS)
NO_STRINGS = (None, 0, True, [TEXT], TEXT.encode(), ("goes", (0,), 1, ()), HISTORY)


class DeedText(unittest.TestCase):

    def test_the_examples(self):
        for deed, text in [(["goes", [2, 0], 7, [[2, 1], (0, 1)]], "goes 0 2 to 7 told 0>1 2>1"),
                           (("goes", [2, 0], 7, []), "goes 0 2 to 7"), (("grant", [1, 0], (2,)), "grant 0 1 over 2"),
                           (["gives", (0, 1), [2]], "gives 0 1 over 2")]:
            self.assertEqual(deed_text(deed), text)
            self.assertEqual(parse_deed(ROW, text), shaped(deed))

    def test_large_hands(self):
        text = f"goes 4 to {10 ** 30} told 4>0"
        self.assertEqual(parse_deed(HOUSE, text), ("goes", (4,), 10 ** 30, ((4, 0),)))
        self.assertEqual(deed_text(parse_deed(HOUSE, text)), text)

    def test_grants_within_one_hand_have_right_shape(self):
        self.assertEqual(parse_deed(ROW, "grant 0 1 over 0 1"), ("grant", (0, 1), (0, 1)))

    def test_what_is_told_is_read_back(self):
        for history in some_histories(21):
            for deed in history:
                self.assertEqual(parse_deed(history.land, deed_text(deed)), deed)

    def test_no_string(self):
        for thing in NO_STRINGS:
            self.assertEqual(caught(lambda: parse_deed(ROW, thing)), ("BadText", 0, "text"))

    def refused(self, *texts):
        for text in texts:
            self.assertEqual(caught(lambda: parse_deed(ROW, text)), ("BadText", 0, "deed"), text)

    def test_words_too_few_or_too_many(self):
        self.refused("", " ", "goes", "goes 0", "goes 0 to", "goes to 1", "goes 0 1", "to 1", "goes 0 to 1 2",
                     "goes 0 to 1 told", "goes 0 to 1 0>1", "goes 0 to 1 told told 0>1", "goes 0 to 1 to 2",
                     "goes 0 to 1 told 0>1 told 1>0", "goes 0 over 1", "goes goes 0 to 1", "goes 0 told 0>1 to 1")
        self.refused("grant", "grant 0", "grant 0 over", "grant over 1", "grant 0 1", "grant 0 to 1", "over 1",
                     "grant 0 over 1 over 2", "grant 0 over 1 told 0>1", "gives 0 over 1 to 2", "grant grant 0 over 1",
                     "gives over", "gives 0 over over 1", "give 0 over 1", "granted 0 over 1", "0 over 1")

    def test_signs_and_blanks(self):
        self.refused(" goes 0 to 1", "goes 0 to 1 ", "goes  0 to 1", "goes 0  to 1", "goes 0 to  1", "goes\t0 to 1",
                     "goes 0 to 1\n", "goes 0 to 1 told  0>1", "goes 0 to 1 told 0>1 ", "goes 0 to 1 told 0 > 1",
                     "goes 0,1 to 1", "Goes 0 to 1", "goes 0 to 1.", "goes 0 to 1 told 0>1>2", "goes 0 to 1 told 01",
                     "goes 0 to 1 told 0>", "goes 0 to 1 told >1", "goes 0 to 1 told >", "goes 0 to 1 told 0<1",
                     "goes 0 to 1 told 0>1,1>0", "grant 0  over 1", "grant 0 over 1 ", " grant 0 over 1")

    def test_numbers(self):
        self.refused("goes 00 to 1", "goes 0 to 01", "goes 0 to +1", "goes 0 to -1", "goes 0 to 1_0", "goes 0 to 1.0",
                     "goes 0 to 00", "goes 01 to 1", "goes 0 to 1 told 00>1", "goes 0 to 1 told 0>01", "grant 0 over 01",
                     "goes \u0660 to 1", "goes 0 to \u00b2", "goes 0 to \u0661", "goes 0 to x", "grant 0 over 1a",
                     f"goes 0 to {10 ** 30 + 1}", "goes 0 to " + "9" * 5000, "goes 0 to 0" + "0" * 30 + "1")

    def test_cells_and_couples(self):
        self.refused("goes 3 to 1", "goes 0 0 to 1", "goes 1 0 to 1", "goes 2 0 1 to 5", "goes 0 to 1 told 0>3",
                     "goes 0 to 1 told 1>1", "goes 0 to 1 told 0>1 0>1", "goes 0 to 1 told 1>0 0>1",
                     "goes 0 to 1 told 0>2 0>1", "grant 1 0 over 2", "grant 0 over 2 1", "gives 0 0 over 1",
                     "grant 0 over 3", "gives 3 over 0")


class HistoryText(unittest.TestCase):

    def refused(self, rows, row, what):
        text = "\n".join(rows)
        self.assertEqual(caught(lambda: parse_history(text)), ("BadText", row, what), text)

    def test_rows(self):
        self.assertEqual(history_text(HISTORY), TEXT)
        self.assertEqual(parse_history(TEXT), HISTORY)
        self.assertEqual(history_text(History(ROW, EXAMPLE)), "\n".join(ROWS[:5]))
        self.assertEqual(parse_history("\n".join(ROWS[:5])), History(ROW, EXAMPLE))

    def test_what_is_told_is_read_back(self):
        for history in some_histories(22):
            text = history_text(history)
            self.assertEqual(parse_history(text), history)
            self.assertEqual(history_text(parse_history(text)), text)

    def test_the_most_deeds(self):
        history = History(PAIR, EXAMPLE, [("goes", [0], 1 - k % 2, []) for k in range(MOST_DEEDS)])
        self.assertEqual(parse_history(history_text(history)), history)

    def test_no_string(self):
        for thing in NO_STRINGS:
            self.assertEqual(caught(lambda: parse_history(thing)), ("BadText", 0, "text"))

    def test_the_text_of_the_land(self):
        self.refused([], 0, "row")
        self.refused(ROWS[4:], 0, "row")
        self.refused(["x"] + ROWS, 0, "row")
        self.refused(ROWS[:1] + ROWS[4:], 1, "row")
        self.refused(ROWS[:1] + ROWS[2:], 1, "row")
        self.refused(ROWS[:3] + [""] + ROWS[4:], 3, "row")
        self.refused(ROWS[:3] + ROWS[4:], 0, "land")
        self.refused(ROWS[:2] + ROWS[3:], 0, "land")
        self.refused(ROWS[:2] + ROWS[4:], 0, "land")
        self.refused(ROWS[:4] + [""] + ROWS[4:], 4, "row")

    def test_no_row_of_a_custom(self):
        self.refused(LAND_ROWS, 4, "custom")
        self.refused(LAND_ROWS[:2], 0, "land")
        self.refused(["cells 2", "roads 1", "next 0 1"], 3, "custom")
        self.refused(LAND_ROWS + DEED_ROWS, 4, "row")
        self.refused(LAND_ROWS + ["custom"], 4, "row")
        self.refused(LAND_ROWS + ["Custom" + CUSTOM_ROW[6:]], 4, "row")
        self.refused(LAND_ROWS + [""], 4, "row")
        self.refused(["cells 2", "next 0 1"], 1, "row")

    def test_wrong_customs(self):
        for rest in ("", " ", custom_text(EXAMPLE) + " ", custom_text(EXAMPLE) + "; ", " " + custom_text(EXAMPLE),
                     custom_text(EXAMPLE)[7:], custom_text(EXAMPLE).replace("need", "needed"), "39",
                     custom_text(EXAMPLE).replace("; ", ";"), "custom " + custom_text(EXAMPLE)):
            self.refused(LAND_ROWS + ["custom " + rest] + DEED_ROWS, 4, "custom")
        self.refused(LAND_ROWS + ["custom x", CUSTOM_ROW], 4, "custom")

    def test_the_land_goes_ahead_of_the_custom(self):
        self.refused(LAND_ROWS[:3] + ["custom x"] + DEED_ROWS, 0, "land")
        self.refused(["cells x", "custom x"], 0, "row")

    def test_rows_that_are_no_deeds(self):
        for row in ("", "goes", "goes 2  to 1", "goes 3 to 1", CUSTOM_ROW, "next 1 2", "goes 02 to 1", "goes 2 to 1\r"):
            self.refused(ROWS[:5] + [row] + ROWS[5:], 5, "deed")
            self.refused(ROWS[:7] + [row] + ROWS[7:], 7, "deed")
            self.refused(ROWS + [row], 9, "deed")

    def test_deeds_that_cannot_be_done(self):
        self.refused(ROWS[:6] + ["goes 2 to 1"] + ROWS[6:], 6, "still")
        self.refused(ROWS + ["grant 1 2 over 0"], 9, "one")
        self.refused(ROWS + ["gives 0 over 2"], 9, "same")
        self.refused(ROWS[:5] + ["grant 0 over 1"], 5, "same")

    def test_the_first_wrong_row_counts(self):
        self.refused(ROWS[:5] + ["goes 0 to 0", "x"], 5, "still")
        self.refused(ROWS[:5] + ["x", "goes 0 to 0"], 5, "deed")
        self.refused(ROWS[:6] + ["x", "goes 0 to 0", "y"], 6, "deed")
        self.refused(ROWS[:6] + ["gives 2 over 1 2", "x"], 6, "one")

    def test_each_custom(self):
        for number in range(0, 192, 7):
            history = History(PAIR, custom_at(number), [("goes", [1], 10 ** 30, [])])
            self.assertEqual(parse_history(history_text(history)), history)

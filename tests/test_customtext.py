"""[2.5]: the text of a custom."""

import unittest

from helpers import caught
from landways.customs import CLAUSES, Custom, custom_at, customs
from landways.customtext import custom_text, parse_custom

TEXT = "untold stay; joined sleep; sold none; kept need; ends free"


class CustomText(unittest.TestCase):

    def refused(self, text, row, what):
        self.assertEqual(caught(lambda: parse_custom(text)), ("BadText", row, what), text)

    def test_the_example(self):
        self.assertEqual(custom_text(custom_at(39)), TEXT)
        self.assertEqual(parse_custom(TEXT), custom_at(39))
        self.assertEqual(custom_text(Custom("needed stay", "die", "beside", "all", "never")),
                         "untold needed stay; joined die; sold beside; kept all; ends never")

    def test_what_is_told_is_read_back(self):
        for custom in customs():
            text = custom_text(custom)
            self.assertEqual(parse_custom(text), custom)
            self.assertEqual(custom_text(parse_custom(text)), text)

    def test_no_string(self):
        for thing in (None, 0, True, [TEXT], TEXT.encode(), custom_at(39), custom_at(39).row):
            self.refused(thing, 0, "text")

    def test_wrong_clauses(self):
        pieces = TEXT.split("; ")
        for place, clause in enumerate(CLAUSES):
            word = pieces[place].removeprefix(clause)
            for piece in ("", " ", clause, clause.upper() + word, " " + pieces[place], clause + word.strip(),
                          clause[:-1] + word, clause + "s" + word, clause + ":" + word, pieces[place - 1]):
                self.refused("; ".join(pieces[:place] + [piece] + pieces[place + 1:]), place, "clause")

    def test_wrong_words(self):
        pieces = TEXT.split("; ")
        for place, clause in enumerate(CLAUSES):
            for word in ("", " stay", "x", "stays", "Need", "need ", "None", "needed  stay"):
                self.refused("; ".join(pieces[:place] + [f"{clause} {word}"] + pieces[place + 1:]), place, "word")
        self.refused(TEXT.replace("sleep", "stay"), 1, "word")
        self.refused(TEXT + " ", 4, "word")
        self.refused(TEXT + ";", 4, "word")
        self.refused(TEXT + "\n", 4, "word")

    def test_pieces_too_few_and_too_many(self):
        pieces = TEXT.split("; ")
        for many in range(5):
            self.refused("; ".join(pieces[:many]), many, "clause")
        self.refused(TEXT + "; ", 5, "clause")
        self.refused(TEXT + "; ends free", 5, "clause")
        self.refused("; " + TEXT, 0, "clause")

    def test_other_marks_between_pieces(self):
        self.refused(TEXT.replace("; ", ";"), 0, "word")
        self.refused(TEXT.replace("; ", ", "), 0, "word")
        self.refused(TEXT.replace("; joined", ";  joined"), 1, "clause")
        self.refused(TEXT.replace("; joined", " ; joined"), 0, "word")

    def test_the_first_fault_counts(self):
        self.refused("untold x; joined x; sold x", 0, "word")
        self.refused("untold die; sold x; joined x; kept none; ends never; more", 1, "clause")
        self.refused("untold die; joined die; sold all; kept all; ends x; more", 4, "word")

"""[1.7]: the text of a land."""

import unittest

from helpers import LANDS, ROW, caught
from landways.landforms import all_lands
from landways.landtext import land_text, parse_land

TEXT = "cells 3\nroads 0\nnext 0 1\nnext 1 2"


class LandText(unittest.TestCase):

    def test_the_example(self):
        self.assertEqual(land_text(ROW), TEXT)
        self.assertEqual(parse_land(TEXT), ROW)

    def test_what_is_told_is_read_back(self):
        for land in [*LANDS, *all_lands(3), *all_lands(4)]:
            text = land_text(land)
            self.assertEqual(parse_land(text), land)
            self.assertEqual(land_text(parse_land(text)), text)

    def test_several_roads(self):
        text = "cells 4\nroads 0 2\nnext 0 1\nnext 0 3\nnext 1 2\nnext 2 3"
        self.assertEqual(land_text(parse_land(text)), text)

    def refused(self, text, row, what="row"):
        self.assertEqual(caught(lambda: parse_land(text)), ("BadText", row, what), text)

    def test_no_string(self):
        for thing in (None, 3, True, [TEXT], TEXT.encode(), ("cells 3",), ROW):
            self.refused(thing, 0, "text")

    def test_wrong_first_rows(self):
        for row in ("", " ", "cells", "cells ", "cells 33", "cells  3", " cells 3", "cells 3 ", "cell 3", "cells 3 3",
                    "Cells 3", "cells x", "cells -3", "cells3", "roads 0", "cells \u0663", "cells \u00b2", "cells 3\r",
                    "cells\t3"):
            self.refused(TEXT.replace("cells 3", row), 0)
            self.refused(row, 0)

    def test_wrong_second_rows(self):
        for row in ("", "roads", "roads ", "roads 1 0", "roads 0  1", "roads 0 ", "roads 10", "road 0", "roads 0,1",
                    "next 0 1", "roads \u0660", "roads a", "roads 0 2 1"):
            self.refused(TEXT.replace("roads 0", row), 1)
        self.refused("cells 3", 1)
        self.refused("cells 0\n", 1)

    def test_wrong_further_rows(self):
        for row in ("", "next", "next 0", "next 0 1 2", "next 1 0", "next 1 1", "next  0 1", "next 0 1 ", "near 0 1",
                    "next 0,1", "next 0 10", "next a b", "next 0 \u0661", "cells 3", "roads 0"):
            self.refused(TEXT.replace("next 0 1", row), 2)

    def test_rows_that_are_not_greater_than_the_last(self):
        self.refused("cells 3\nroads 0\nnext 0 1\nnext 0 1", 3)
        self.refused("cells 3\nroads 0\nnext 1 2\nnext 0 1", 3)
        self.refused("cells 3\nroads 0\nnext 0 2\nnext 0 1\nnext 1 2", 3)
        self.refused("cells 3\nroads 0\nnext 0 1\nnext 0 2\nnext 0 2", 4)

    def test_a_row_too_many(self):
        self.refused(TEXT + "\n", 4)
        self.refused("\n" + TEXT, 0)
        self.refused(TEXT + "\n\n", 4)
        self.refused(TEXT + "\nnext 0 2", 4)

    def test_the_first_wrong_row_counts(self):
        self.refused("cells 33\nroads 1 0\nnext 1 0", 0)
        self.refused("cells 3\nroads 1 0\nnext 1 0", 1)

    def test_numbers_that_make_no_land(self):
        for text in ("cells 9\nroads 0\nnext 0 1", "cells 1\nroads 0", "cells 0\nroads 7", "cells 3\nroads 0",
                     "cells 3\nroads 0 0\nnext 0 1\nnext 1 2", "cells 3\nroads 0 1 2\nnext 0 1\nnext 1 2",
                     "cells 3\nroads 3\nnext 0 1\nnext 1 2", "cells 3\nroads 0\nnext 0 1\nnext 1 3",
                     "cells 3\nroads 0\nnext 0 1", "cells 6\nroads 0\nnext 0 1"):
            self.refused(text, 0, "land")

    def test_a_wrong_row_goes_ahead_of_a_wrong_land(self):
        self.refused("cells 9\nroads 0\nnext 0 1\nnext", 3)

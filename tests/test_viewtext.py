"""[4.3]: the texts of views."""

import unittest

from helpers import CHAIN, LANDS, PAIR, ROW, caught
from landways.views import View, all_views
from landways.viewtext import parse_view, view_text


class Texts(unittest.TestCase):

    def test_letters(self):
        view = View(CHAIN, 2, [0, 1, 2], ["none", "asleep", "none", "awake", "needed"])
        self.assertEqual(view_text(view), "2: osan")
        self.assertEqual(view_text(View(PAIR, 0, [0], ["none", "none"])), "0: .")

    def test_read_back(self):
        for land in LANDS:
            for cell in range(land.cells):
                for view in list(all_views(land, cell))[::1 if land.cells < 5 else 17]:
                    self.assertEqual(parse_view(land, view_text(view)), view)

    def test_what_is_no_string(self):
        for thing in (None, 2, b"2: oo", ["2: oo"], ("2", "oo"), True):
            self.assertEqual(caught(lambda: parse_view(ROW, thing)), ("BadText", 0, "text"))

    def test_wrong_cells(self):
        for text in ("", "2", "2:", "2:oo", "2 :oo", "3: oo", "9: oo", " 2: oo", "-1: oo", "a: oo", "oo", ": oo", "02: oo",
                     "12: oo", "2; oo", "2:\noo", "2:  "[:2], "\u0662: oo", "\u00b2: oo", "3: xx"):
            self.assertEqual(caught(lambda: parse_view(ROW, text)), ("BadText", 0, "cell"), text)

    def test_wrong_ways(self):
        for text in ("2: ", "2: o", "2: ooo", "2: ox", "2: OO", "2:  oo", "2: oo\n", "2: oo ", "2: o,", "2: 00", "2:   "):
            self.assertEqual(caught(lambda: parse_view(ROW, text)), ("BadText", 0, "ways"), text)

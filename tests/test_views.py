"""[4.1], [4.2]: views and their numbers."""

import inspect
import unittest

import oracle
from helpers import CHAIN, LANDS, NO_NUMBERS, PAIR, RING, ROW, caught, look, some_states, tuples_only
from landways.lands import Land
from landways.states import State, start_state
from landways.views import View, all_views, start_view, view_at, view_of

WAYS = ("own", "asleep", "none", "awake", "needed")
NONE = ("none",) * 3


class Making(unittest.TestCase):

    def test_attributes(self):
        view = View(CHAIN, 2, [4, 2, 0], ["asleep", "needed", "none", "awake", "none"])
        self.assertEqual((view.land, view.cell, view.own), (CHAIN, 2, (0, 2, 4)))
        self.assertEqual(view.standings, ("asleep", "needed", "none", "awake", "none"))
        self.assertEqual((view.outside, view.rights, view.needed, view.sleeping), ((1, 3), (1, 3), (1,), (0,)))
        self.assertEqual(view.number, ((1 * 5 + 4) * 5 + 3) * 5 + 0)
        self.assertTrue(tuples_only([tuple(vars(view).values())][0]))

    def test_what_is_no_land(self):
        for thing in (None, 3, "land", (3, ((0, 1), (1, 2)), (0,)), start_state(ROW)):
            self.assertEqual(caught(lambda: View(thing, None, None, None)), ("BadView", "land"))

    def test_what_is_no_cell(self):
        for thing in (-1, 3, *NO_NUMBERS):
            self.assertEqual(caught(lambda: View(ROW, thing, None, None)), ("BadView", "cell"))

    def test_wrong_own_cells(self):
        for thing in (None, 0, "012", (), [], [0], [0, 1], [2, 2], [2, 3], [2, -1], {2}, range(3), {2: 2}):
            self.assertEqual(caught(lambda: View(ROW, 2, thing, None)), ("BadView", "own"), thing)
        for thing in NO_NUMBERS:
            self.assertEqual(caught(lambda: View(ROW, 2, [2, thing], None)), ("BadView", "own"))
        self.assertEqual(caught(lambda: View(ROW, 1, [True], NONE)), ("BadView", "own"))

    def test_wrong_standings(self):
        for thing in (None, 0, "none", [], NONE[:2], NONE + NONE[:1], {"none"}, ["none", "none", "own"],
                      ["none", 0, "none"], ["none", None, "none"], ["none", ["none"], "none"],
                      ["none", "none", "awake"], ["none", "none", "asleep"], ["none", "none", "needed"]):
            self.assertEqual(caught(lambda: View(ROW, 2, [2], thing)), ("BadView", "standings"), thing)

    def test_rights_in_the_wrong_place(self):
        self.assertEqual(caught(lambda: View(ROW, 2, [2, 1], ["asleep", "none", "none"])), ("BadView", "asleep"))
        for word in ("awake", "needed"):
            self.assertEqual(caught(lambda: View(ROW, 2, [2, 1], ["none", word, "none"])), ("BadView", "awake"))
            self.assertEqual(caught(lambda: View(ROW, 2, [2, 1], ["asleep", word, "none"])), ("BadView", "asleep"))

    def test_the_order_of_the_words(self):
        self.assertEqual(caught(lambda: View(None, 9, (), ())), ("BadView", "land"))
        self.assertEqual(caught(lambda: View(ROW, 9, (), ())), ("BadView", "cell"))
        self.assertEqual(caught(lambda: View(ROW, 2, (), ())), ("BadView", "own"))
        self.assertEqual(caught(lambda: View(ROW, 2, (2,), ())), ("BadView", "standings"))

    def test_lists_that_are_changed_later(self):
        own, words = [2, 0], ["none"] * 3
        view = View(ROW, 2, own, words)
        own.append(1)
        words[1] = "awake"
        self.assertEqual((view.own, view.standings), ((0, 2), NONE))
        self.assertEqual((own, words), ([2, 0, 1], ["none", "awake", "none"]))

    def test_equal(self):
        view = View(ROW, 2, [0, 2], ["asleep", "awake", "none"])
        self.assertTrue(view == View(ROW, 2, (2, 0), ("asleep", "awake", "none")))
        self.assertFalse(view == View(ROW, 2, (2, 0), ("asleep", "needed", "none")))
        self.assertFalse(view == View(ROW, 2, (2, 0), ("none", "awake", "none")))
        self.assertFalse(View(ROW, 2, [2], NONE) == View(ROW, 2, [2, 1], NONE))
        self.assertFalse(View(ROW, 2, [1, 2], NONE) == View(ROW, 1, [1, 2], NONE))
        self.assertFalse(View(ROW, 2, [2], NONE) == View(Land(3, ROW.neighbours, [1]), 2, [2], NONE))
        for thing in (None, ROW, 0, "2: oo", (ROW, 2, (2,), NONE), start_state(ROW)):
            self.assertFalse(view == thing)


class Asking(unittest.TestCase):

    def test_passing_and_open(self):
        view = look(CHAIN, "2: snaa")
        self.assertEqual(view.passing(), (0, 1, 2, 3, 4))
        self.assertIs(view.is_open(), True)
        self.assertEqual(look(CHAIN, "2: o.na").passing(), (0, 2, 3, 4))
        self.assertIs(look(CHAIN, "2: o.na").is_open(), False)
        self.assertIs(look(ROW, "0: ..").is_open(), True)
        self.assertIs(look(ROW, "1: ..").is_open(), False)
        self.assertIs(look(ROW, "1: n.").is_open(), True)

    def test_ways(self):
        view = look(CHAIN, "2: sn.o")
        self.assertEqual([view.way_of(b) for b in (0, 1, 3, 4)], ["asleep", "needed", "none", "own"])
        self.assertEqual(look(ROW, "1: ao").way_of(0), "awake")
        for thing in (-1, 2, 5, *NO_NUMBERS):
            self.assertEqual(caught(lambda: view.way_of(thing)), ("BadCell", thing))

    def test_against_the_state(self):
        for state in some_states(41, 60):
            land = state.land
            for cell in range(land.cells):
                view = view_of(state, cell)
                self.assertEqual((view.land, view.cell), (land, cell))
                self.assertEqual(view.own, state.own_cells(cell))
                self.assertEqual(view.standings, state.standings[cell])
                self.assertEqual(view.passing(), state.passing(cell))
                self.assertIs(view.is_open(), oracle.is_open(land, cell, set(view.passing())))
                self.assertEqual(view.outside, tuple(b for b in range(land.cells) if b not in view.own))
                words = view.standings
                self.assertEqual(view.rights, tuple(b for b in range(land.cells) if words[b] in ("awake", "needed")))
                self.assertEqual(view.needed, tuple(b for b in range(land.cells) if words[b] == "needed"))
                self.assertEqual(view.sleeping, tuple(b for b in range(land.cells) if words[b] == "asleep"))
                for b in land.others(cell):
                    way = "own" if b in view.own and words[b] == "none" else words[b]
                    self.assertEqual(view.way_of(b), way)


class Numbers(unittest.TestCase):

    def test_digits_are_ways_in_order(self):
        for land in LANDS:
            for cell in range(land.cells):
                views = list(all_views(land, cell))
                self.assertEqual(len(views), 5 ** (land.cells - 1))
                for number in range(0, len(views), 1 if land.cells < 5 else 23):
                    view = views[number]
                    self.assertEqual((view.land, view.cell, view.number), (land, cell, number))
                    digits = 0
                    for b in land.others(cell):
                        digits = digits * 5 + WAYS.index(view.way_of(b))
                    self.assertEqual(digits, number)
                    self.assertEqual(view_at(land, cell, number), view)

    def test_first_and_last(self):
        self.assertEqual(view_at(RING, 1, 0), look(RING, "1: ooo"))
        self.assertEqual(view_at(RING, 1, 124), look(RING, "1: nnn"))
        self.assertEqual(view_at(RING, 1, 25), look(RING, "1: soo"))
        self.assertEqual(view_at(RING, 1, 1), look(RING, "1: oos"))
        self.assertEqual([view_at(PAIR, 1, k) for k in range(5)], [look(PAIR, "1: " + sign) for sign in "os.an"])

    def test_start(self):
        for land in LANDS:
            for cell in range(land.cells):
                view = start_view(land, cell)
                self.assertEqual((view.number, view), (0, view_of(start_state(land), cell)))
                self.assertEqual(view.own, tuple(range(land.cells)))

    def test_wrong_numbers(self):
        for thing in (-1, 25, 10 ** 40, *NO_NUMBERS):
            self.assertEqual(caught(lambda: view_at(ROW, 1, thing)), ("BadNumber", thing))
        self.assertEqual(caught(lambda: view_at(PAIR, 1, 5)), ("BadNumber", 5))
        self.assertEqual(caught(lambda: view_at(CHAIN, 1, 625)), ("BadNumber", 625))

    def test_what_is_no_cell(self):
        for thing in (-1, 3, *NO_NUMBERS):
            for ask in (lambda: view_at(ROW, thing, -1), lambda: start_view(ROW, thing),
                        lambda: view_of(start_state(ROW), thing), lambda: list(all_views(ROW, thing))):
                self.assertEqual(caught(ask), ("BadCell", thing))

    def test_it_is_a_generator(self):
        self.assertTrue(inspect.isgeneratorfunction(all_views))
        self.assertEqual(next(all_views(ROW, 0)), start_view(ROW, 0))

    def test_hands_do_not_matter(self):
        rows = [["none", "awake", "none"], NONE, ["asleep", "needed", "none"]]
        self.assertEqual(view_of(State(ROW, [4, 9, 4], rows), 2), view_of(State(ROW, [0, 1, 0], rows), 2))

"""[1.1], [1.2]: what numbers, cells, lots and couples are, and lands."""

import unittest

from helpers import HOUSE, NO_NUMBERS, PAIR, RING, ROW, caught
from landways.lands import MOST_CELLS, MOST_HAND, Land, are_cells, is_cell, is_couple, is_lot, is_whole


class Numbers(unittest.TestCase):

    def test_bounds(self):
        self.assertEqual((MOST_CELLS, MOST_HAND), (5, 10 ** 30))

    def test_is_whole(self):
        for number in (2, 3, 7):
            self.assertIs(is_whole(number, 2, 7), True)
        for number in (1, 8, -3, 10 ** 299):
            self.assertIs(is_whole(number, 2, 7), False)
        self.assertIs(is_whole(-4, -5, -3), True)
        self.assertIs(is_whole(10 ** 290, 0, 10 ** 299), True)
        for thing in NO_NUMBERS:
            self.assertIs(is_whole(thing, -10, 10), False, thing)

    def test_are_cells(self):
        for thing, least in [([], 0), ((), 0), ([0], 1), ((2, 0), 2), ([2, 1, 0], 0), ([2, 1, 0], 3)]:
            self.assertIs(are_cells(3, thing, least), True, thing)
        for thing, least in [([], 1), ([1], 2), ([1, 1], 1), ([0, 0, 1], 2), ([3], 0), ([-1], 0), ([True], 0),
                             ([1, True], 0), ([None], 0), (["0"], 0), ([[0]], 0), ([{}], 0), ("", 0), ("01", 1),
                             ({0}, 1), ({0: 1}, 1), (range(2), 1), (None, 0), (0, 0), (iter([0]), 0), (b"", 0)]:
            self.assertIs(are_cells(3, thing, least), False, thing)

    def test_is_cell(self):
        for cell in (0, 1, 2):
            self.assertIs(is_cell(ROW, cell), True)
        for thing in (-1, 3, *NO_NUMBERS):
            self.assertIs(is_cell(ROW, thing), False)

    def test_is_lot(self):
        self.assertIs(is_lot(ROW, [2, 0], 2), True)
        self.assertIs(is_lot(ROW, (), 0), True)
        for thing, least in [([2, 0], 3), ([0, 3], 0), ([0, 0], 0), ("", 0), (None, 0), ({1}, 0), ([True], 0)]:
            self.assertIs(is_lot(ROW, thing, least), False, thing)

    def test_is_couple(self):
        for thing in [(0, 1), [1, 0], (2, 0)]:
            self.assertIs(is_couple(ROW, thing), True)
        for thing in [(), (0,), (0, 1, 2), (1, 1), (0, 3), (-1, 0), (0, True), (False, 1), "01", None, {0, 1},
                      ((0,), 1), 5, [None, 0]]:
            self.assertIs(is_couple(ROW, thing), False, thing)


class Making(unittest.TestCase):

    def test_attributes_are_put_in_order(self):
        land = Land(4, [[3, 2], (1, 0), [0, 2]], [3, 1])
        self.assertEqual(land.cells, 4)
        self.assertEqual(land.neighbours, ((0, 1), (0, 2), (2, 3)))
        self.assertEqual(land.roads, (1, 3))

    def test_lands_of_two_and_of_five_cells(self):
        self.assertEqual(Land(2, ((1, 0),), (0,)).neighbours, ((0, 1),))
        every = [(a, b) for a in range(5) for b in range(a)]
        self.assertEqual(len(Land(5, every, [0, 1, 2, 3]).neighbours), 10)

    def test_wrong_cells(self):
        for cells in (1, 0, -1, 6, 10 ** 20, *NO_NUMBERS):
            self.assertEqual(caught(lambda: Land(cells, None, None)), ("BadLand", "cells"))

    def test_wrong_neighbours(self):
        for neighbours in [None, "", "01", 0, {(0, 1)}, [None], [(0, 1), 3], [(0, 1), (1, 2, 0)], [(0, 1), (1,)],
                           [(0, 1), (1, 3)], [(0, 1), (1, 1)], [(0, 1), (1, True)], [(0, 1), "12"], [(0, 1), (1, -1)],
                           [(0, 1), (1, 2), (0, 1)], [(0, 1), (1, 2), [1, 0]], [(0, 1), (1, None)]]:
            self.assertEqual(caught(lambda: Land(3, neighbours, None)), ("BadLand", "neighbours"), neighbours)

    def test_wrong_roads(self):
        for roads in [None, "", "0", 0, [], (), [0, 1, 2], [0, 0], [3], [-1], [True], [None], {0}, [[0]], [0, False]]:
            self.assertEqual(caught(lambda: Land(3, [(0, 1)], roads)), ("BadLand", "roads"), roads)

    def test_lands_that_do_not_hang_together(self):
        for cells, neighbours in [(2, []), (3, [(0, 1)]), (3, [(1, 2)]), (4, [(0, 1), (2, 3)]),
                                  (5, [(0, 1), (1, 2), (0, 2), (3, 4)])]:
            self.assertEqual(caught(lambda: Land(cells, neighbours, [0])), ("BadLand", "whole"))

    def test_lists_that_are_changed_later(self):
        neighbours, roads = [[0, 1], [1, 2]], [0]
        land = Land(3, neighbours, roads)
        neighbours[0][1] = 2
        neighbours.append([0, 2])
        roads.append(1)
        self.assertEqual(land, ROW)
        self.assertEqual((land.neighbours, land.roads), (((0, 1), (1, 2)), (0,)))


class Asking(unittest.TestCase):

    def test_couples(self):
        self.assertEqual(PAIR.couples, ((0, 1), (1, 0)))
        self.assertEqual(ROW.couples, ((0, 1), (0, 2), (1, 0), (1, 2), (2, 0), (2, 1)))
        self.assertEqual(len(HOUSE.couples), 20)

    def test_neighbours(self):
        self.assertEqual([RING.around(cell) for cell in range(4)], [(1, 3), (0, 2), (1, 3), (0, 2)])
        for a in range(5):
            for b in range(5):
                self.assertIs(HOUSE.is_neighbour(a, b), b in HOUSE.around(a))
        self.assertIs(ROW.is_neighbour(1, 1), False)
        self.assertIs(ROW.is_neighbour(2, 1), True)
        self.assertIs(ROW.is_neighbour(0, 2), False)

    def test_others(self):
        self.assertEqual([ROW.others(cell) for cell in range(3)], [(1, 2), (0, 2), (0, 1)])

    def test_roads(self):
        self.assertEqual([RING.is_road(cell) for cell in range(4)], [True, False, True, False])

    def test_what_is_no_cell(self):
        for thing in (-1, 3, *NO_NUMBERS):
            for ask in (ROW.around, ROW.others, ROW.is_road):
                self.assertEqual(caught(lambda: ask(thing)), ("BadCell", thing))
            self.assertEqual(caught(lambda: ROW.is_neighbour(thing, 0)), ("BadCell", thing))
            self.assertEqual(caught(lambda: ROW.is_neighbour(0, thing)), ("BadCell", thing))
            self.assertEqual(caught(lambda: ROW.is_neighbour(thing, 7)), ("BadCell", thing))

    def test_equal(self):
        self.assertEqual(Land(3, [(2, 1), (1, 0)], (0,)), ROW)
        for other in [Land(3, [(0, 1), (0, 2)], [0]), Land(3, [(0, 1), (1, 2)], [1]),
                      Land(4, [(0, 1), (1, 2), (2, 3)], [0])]:
            self.assertFalse(ROW == other)
            self.assertTrue(ROW != other)
        for thing in (None, 3, "land", (3, ((0, 1), (1, 2)), (0,))):
            self.assertFalse(ROW == thing)

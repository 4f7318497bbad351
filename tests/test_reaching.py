"""[1.4]: coming to cells, ways to the road, and least lots."""

import unittest
from itertools import combinations, permutations

import oracle
from helpers import CHAIN, FORK, HOUSE, LANDS, NO_NUMBERS, RING, ROW, caught
from landways.lands import Land
from landways.reaching import is_open, least_lot, least_lots, open_way, opens, reached

ASKS = (reached, is_open, open_way)
LEASTS = (least_lots, least_lot)


def every_lot(land):
    cells = range(land.cells)
    return [lot for many in range(land.cells + 1) for lot in combinations(cells, many)]


def every_way(land, cell, passing):
    """All ways without repeats from the cell to a road cell."""
    ways = []
    for many in range(land.cells):
        for further in permutations([b for b in passing if b != cell], many):
            way = (cell, *further)
            joined = all(land.is_neighbour(a, b) for a, b in zip(way, way[1:]))
            if joined and land.is_road(way[-1]):
                ways.append(way)
    return ways


class Reaching(unittest.TestCase):

    def test_the_example(self):
        self.assertEqual(least_lot(ROW, 2, [], [0, 1]), (0, 1))
        self.assertEqual(open_way(ROW, 2, [0, 1]), (2, 1, 0))
        self.assertIs(is_open(ROW, 2, []), False)

    def test_reached(self):
        self.assertEqual(reached(CHAIN, 2, []), (2,))
        self.assertEqual(reached(CHAIN, 2, [4, 1]), (1, 2))
        self.assertEqual(reached(CHAIN, 2, (4, 3, 0)), (2, 3, 4))
        self.assertEqual(reached(CHAIN, 4, [2, 1, 0]), (4,))

    def test_the_cell_itself_makes_no_difference(self):
        for land in LANDS:
            for cell in range(land.cells):
                for lot in every_lot(land):
                    with_cell = tuple(set(lot) | {cell})
                    for ask in (reached, is_open, open_way, opens):
                        self.assertEqual(ask(land, cell, lot), ask(land, cell, with_cell))

    def test_open_as_the_ways_say(self):
        for land in LANDS:
            for cell in range(land.cells):
                for lot in every_lot(land):
                    ways = every_way(land, cell, lot)
                    self.assertIs(is_open(land, cell, lot), bool(ways))
                    self.assertIs(opens(land, cell, lot), bool(ways))
                    best = min(ways, key=lambda way: (len(way), way)) if ways else None
                    self.assertEqual(open_way(land, cell, lot), best)

    def test_a_road_cell_is_always_open(self):
        self.assertIs(is_open(ROW, 0, []), True)
        self.assertEqual(open_way(ROW, 0, [1, 2]), (0,))
        self.assertEqual(least_lots(ROW, 0, [], [1, 2]), ((),))

    def test_the_first_of_several_ways(self):
        land = Land(5, [(0, 1), (0, 2), (1, 3), (2, 4)], [3, 4])
        self.assertEqual(open_way(land, 0, [4, 3, 2, 1]), (0, 1, 3))
        self.assertEqual(open_way(land, 0, [4, 3, 2]), (0, 2, 4))
        land = Land(5, [(0, 1), (1, 2), (2, 3), (0, 4)], [3, 4])
        self.assertEqual(open_way(land, 0, [1, 2, 3, 4]), (0, 4))

    def test_least_lots(self):
        self.assertEqual(least_lots(RING, 1, [], [0, 1, 2, 3]), ((0,), (2,)))
        self.assertEqual(least_lot(RING, 1, [], [3, 2, 1, 0]), (0,))
        self.assertEqual(least_lots(FORK, 0, [], [2, 3]), ((2, 3),))
        self.assertEqual(least_lots(FORK, 0, [], (3, 2)), ((2, 3),))
        self.assertEqual(least_lots(HOUSE, 1, [4], [3, 2, 0]), ((0, 3), (2, 3)))
        self.assertEqual(least_lots(FORK, 0, [2], [1, 3]), ((1,), (3,)))
        self.assertEqual(least_lots(HOUSE, 1, (4,), [0, 2, 3]), ((0, 3), (2, 3)))

    def test_open_already_and_never(self):
        self.assertEqual(least_lots(ROW, 2, [0, 1], [0, 1]), ((),))
        self.assertEqual(least_lot(ROW, 2, [0, 1], []), ())
        self.assertEqual(least_lots(ROW, 2, [], []), ())
        self.assertEqual(least_lots(ROW, 2, [0], [2]), ())
        self.assertIsNone(least_lot(ROW, 2, [1], [1, 2]))
        self.assertIsNone(open_way(ROW, 2, [0]))

    def test_least_lots_as_told_again(self):
        for land in LANDS:
            for cell in range(land.cells):
                for passing in every_lot(land):
                    for among in every_lot(land)[::3]:
                        lots = oracle.least_lots(land, cell, passing, among)
                        self.assertEqual(least_lots(land, cell, passing, among), lots)
                        self.assertEqual(least_lot(land, cell, passing, among), lots[0] if lots else None)

    def test_what_is_no_cell(self):
        for thing in (-1, 3, *NO_NUMBERS):
            for ask in ASKS:
                self.assertEqual(caught(lambda: ask(ROW, thing, None)), ("BadCell", thing))
            for ask in LEASTS:
                self.assertEqual(caught(lambda: ask(ROW, thing, None, None)), ("BadCell", thing))

    def test_what_is_no_lot(self):
        for thing in (None, "", "01", 0, {1}, [3], [-1], [True], [1, 1], [None], [[1]], range(2)):
            for ask in ASKS:
                self.assertEqual(caught(lambda: ask(ROW, 0, thing)), ("BadCells", "passing"))
            for ask in LEASTS:
                self.assertEqual(caught(lambda: ask(ROW, 0, thing, None)), ("BadCells", "passing"))
                self.assertEqual(caught(lambda: ask(ROW, 0, [], thing)), ("BadCells", "among"))

    def test_lists_are_left_as_they_are(self):
        passing, among = [1], [2, 0]
        lots = least_lots(ROW, 2, passing, among)
        self.assertEqual((passing, among), ([1], [2, 0]))
        among.clear()
        self.assertEqual(lots, ((0,),))

"""[1.6]: all lands of two, three and four cells."""

import unittest
from itertools import combinations

from helpers import NO_NUMBERS, caught
from landways.errors import BadLand
from landways.lands import Land
from landways.landforms import all_lands, number_of_lands
from landways.likeness import least_form


def every_land(cells):
    """All lands of so many cells, alike ones too."""
    couples = list(combinations(range(cells), 2))
    for many in range(len(couples) + 1):
        for neighbours in combinations(couples, many):
            for at_road in range(1, cells):
                for roads in combinations(range(cells), at_road):
                    try:
                        yield Land(cells, neighbours, roads)
                    except BadLand:
                        pass


class AllLands(unittest.TestCase):

    def test_numbers(self):
        self.assertEqual([number_of_lands(cells) for cells in (2, 3, 4)], [1, 6, 38])

    def test_lands_of_two_and_three_cells(self):
        self.assertEqual([(land.neighbours, land.roads) for land in all_lands(2)], [(((0, 1),), (0,))])
        row, ring = ((0, 1), (0, 2)), ((0, 1), (0, 2), (1, 2))
        found = [(land.neighbours, land.roads) for land in all_lands(3)]
        self.assertEqual(found, [(row, (0,)), (row, (0, 1)), (row, (1,)), (row, (1, 2)), (ring, (0,)), (ring, (0, 1))])

    def test_they_are_the_least_forms_each_once_in_order(self):
        for cells in (2, 3, 4):
            forms = {(form.neighbours, form.roads) for form in map(least_form, every_land(cells))}
            found = [(land.neighbours, land.roads) for land in all_lands(cells)]
            self.assertEqual(found, sorted(forms))

    def test_it_is_a_generator(self):
        self.assertEqual(next(all_lands(4)).cells, 4)

    def test_other_numbers(self):
        for thing in (1, 5, 0, -2, *NO_NUMBERS):
            self.assertEqual(caught(lambda: list(all_lands(thing))), ("BadNumber", thing))
            self.assertEqual(caught(lambda: number_of_lands(thing)), ("BadNumber", thing))

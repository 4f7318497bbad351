"""[1.3]: all lots of some cells."""

import unittest

from landways.lots import all_lots


class Lots(unittest.TestCase):

    def test_order(self):
        self.assertEqual(all_lots([]), ((),))
        self.assertEqual(all_lots((4,)), ((), (4,)))
        self.assertEqual(all_lots([0, 2, 3]), ((), (0,), (2,), (3,), (0, 2), (0, 3), (2, 3), (0, 2, 3)))

    def test_numbers_of_any_size(self):
        big = 10 ** 40
        self.assertEqual(all_lots([-big, 5, big])[-2:], ((5, big), (-big, 5, big)))

    def test_ten_cells(self):
        lots = all_lots(list(range(10)))
        self.assertEqual(len(lots), 1024)
        self.assertEqual(len(set(lots)), 1024)
        for one, other in zip(lots, lots[1:]):
            self.assertTrue((len(one), one) < (len(other), other))

    def test_the_list_is_left_as_it_is(self):
        cells = [1, 3]
        lots = all_lots(cells)
        cells.append(4)
        self.assertEqual(lots, ((), (1,), (3,), (1, 3)))

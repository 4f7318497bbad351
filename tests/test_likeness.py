"""[1.5]: orders, renumbered lands, lands that are alike."""

import unittest
from itertools import permutations

from helpers import CHAIN, FORK, HOUSE, LANDS, PAIR, RING, ROW, caught
from landways.lands import Land
from landways.likeness import all_orders, least_form, led_couple, led_lot, likenesses, renumbered


class Orders(unittest.TestCase):

    def test_all_orders(self):
        self.assertEqual(all_orders(0), ((),))
        self.assertEqual(all_orders(1), ((0,),))
        for many in range(6):
            self.assertEqual(all_orders(many), tuple(permutations(range(many))))

    def test_led(self):
        order = [2, 0, 3, 1]
        self.assertEqual(led_lot(order, [0, 2, 3]), (1, 2, 3))
        self.assertEqual(led_lot(order, ()), ())
        self.assertEqual(led_couple(order, [0, 3]), (2, 1))
        self.assertEqual(led_couple(tuple(order), (3, 0)), (1, 2))

    def test_renumbered(self):
        land = renumbered(ROW, [2, 0, 1])
        self.assertEqual((land.cells, land.neighbours, land.roads), (3, ((0, 1), (0, 2)), (2,)))
        self.assertEqual(renumbered(ROW, (0, 1, 2)), ROW)

    def test_renumbered_as_the_neighbours_say(self):
        for land in LANDS:
            for order in all_orders(land.cells)[::7]:
                new = renumbered(land, order)
                for a in range(land.cells):
                    self.assertIs(new.is_road(order[a]), land.is_road(a))
                    for b in range(land.cells):
                        self.assertIs(new.is_neighbour(order[a], order[b]), land.is_neighbour(a, b))

    def test_what_is_no_order(self):
        for order in (None, "012", 0, [], [0, 1], [0, 1, 2, 3], [0, 1, 1], [1, 2, 3], [0, True, 2], [0, 1, None],
                      {0, 1, 2}, range(3), [-1, 0, 1]):
            self.assertEqual(caught(lambda: renumbered(ROW, order)), ("BadCells", "order"))


class Likenesses(unittest.TestCase):

    def test_orders_that_lead_one_land_to_itself(self):
        self.assertEqual(list(likenesses(ROW, ROW)), [(0, 1, 2)])
        self.assertEqual(list(likenesses(RING, RING)), [(0, 1, 2, 3), (0, 3, 2, 1), (2, 1, 0, 3), (2, 3, 0, 1)])

    def test_orders_that_lead_to_another_land(self):
        for land in LANDS:
            for order in all_orders(land.cells)[::11]:
                other = renumbered(land, order)
                found = list(likenesses(land, other))
                self.assertIn(order, found)
                self.assertEqual(found, sorted(found))
                for one in all_orders(land.cells):
                    self.assertEqual(one in found, renumbered(land, one) == other)

    def test_lands_that_are_not_alike(self):
        self.assertEqual(list(likenesses(RING, FORK)), [])
        self.assertEqual(list(likenesses(PAIR, ROW)), [])
        self.assertEqual(list(likenesses(CHAIN, HOUSE)), [])

    def test_it_is_a_generator(self):
        orders = likenesses(RING, RING)
        self.assertEqual(next(orders), (0, 1, 2, 3))
        self.assertEqual(next(orders), (0, 3, 2, 1))


class LeastForms(unittest.TestCase):

    def test_least_form(self):
        self.assertEqual(least_form(Land(2, [(0, 1)], [1])), Land(2, [(0, 1)], [0]))
        form = least_form(ROW)
        self.assertEqual((form.neighbours, form.roads), (((0, 1), (0, 2)), (1,)))

    def test_it_is_the_least_of_all(self):
        for land in LANDS:
            forms = [renumbered(land, order) for order in all_orders(land.cells)]
            least = min((form.neighbours, form.roads) for form in forms)
            form = least_form(land)
            self.assertEqual((form.cells, form.neighbours, form.roads), (land.cells, *least))

    def test_alike_exactly_if_least_forms_are_equal(self):
        lands = [renumbered(land, order) for land in LANDS for order in all_orders(land.cells)[::13]]
        for one in lands:
            for other in lands:
                alike = any(True for _ in likenesses(one, other))
                self.assertIs(least_form(one) == least_form(other), alike)

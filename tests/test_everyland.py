"""[6.1] to [6.4]: sorts of cells, and the fewest deeds on all lands."""

import unittest

import oracle
from helpers import CHAIN, FORK, HOUSE, LANDS, NO_NUMBERS, PAIR, RING, ROW, caught
from landways.counted import Counted, counteds
from landways.customs import Custom, custom_at, customs
from landways.everyland import EveryLand, fewest_deeds, is_nowhere, on_all_lands, probe_land, shutting, sort_of
from landways.histories import History
from landways.landforms import all_lands
from landways.lands import Land
from landways.likeness import all_orders, renumbered
from landways.verdicts import is_never, shuttable, verdict_of
from statewalk import came_by, is_shut, state_graph

SORTS = ("far", "loose", "bound")
ALL_LANDS = [land for cells in (2, 3, 4) for land in all_lands(cells)] + [HOUSE, CHAIN]


def numbers(custom, counted=None):
    every = on_all_lands(custom, counted)
    return (every.far, every.loose, every.bound)


def sort_told_again(land, cell):
    """The sort as [6.1] tells it."""
    if cell in land.roads:
        return "road"
    near = [b for b in land.around(cell) if b in land.roads]
    if not near:
        return "far"
    return "loose" if oracle.is_open(land, cell, set(range(land.cells)) - set(near)) else "bound"


def number_told_again(custom, counted, sort):
    """The number as [6.2] lists it, case by case."""
    sides = (custom.sold, custom.kept)
    untold = custom.untold if counted.untold else "stay"
    cases = [(1, "none" in sides), (1, sort == "far" and "beside" in sides), (2, counted.giving_up),
             (2, untold == "die"), (2, untold == "needed stay" and sides != ("need", "need")),
             (2, sort == "loose" and sorted(sides) == ["beside", "need"]),
             (3, untold == "needed stay" and counted.grants), (4, untold == "needed stay" and custom.joined == "sleep")]
    return next((number for number, applies in cases if applies), None)


class Sorts(unittest.TestCase):

    def test_each_sort(self):
        self.assertEqual([sort_of(ROW, cell) for cell in range(3)], ["road", "bound", "far"])
        self.assertEqual([sort_of(RING, cell) for cell in range(4)], ["road", "bound", "road", "bound"])
        self.assertEqual([sort_of(FORK, cell) for cell in range(4)], ["loose", "road", "loose", "road"])
        self.assertEqual([sort_of(HOUSE, cell) for cell in range(5)], ["far", "far", "far", "bound", "road"])
        wheel = Land(5, [(0, 1), (0, 2), (1, 3), (2, 4), (3, 4)], [1, 4])
        self.assertEqual([sort_of(wheel, cell) for cell in range(5)], ["loose", "road", "loose", "bound", "road"])

    def test_all_lands_against_the_words(self):
        for land in ALL_LANDS:
            for order in all_orders(land.cells)[::5]:
                led = renumbered(land, order)
                for cell in range(land.cells):
                    self.assertEqual(sort_of(led, cell), sort_told_again(led, cell))
                    self.assertEqual(sort_of(led, order[cell]), sort_of(land, cell))

    def test_probe_lands(self):
        self.assertEqual(probe_land("bound"), Land(2, [(0, 1)], [1]))
        self.assertEqual(probe_land("far"), Land(3, [(0, 1), (1, 2)], [2]))
        self.assertEqual(probe_land("loose"), Land(4, [(0, 1), (0, 2), (2, 3)], [1, 3]))
        for word in SORTS:
            self.assertEqual(sort_of(probe_land(word), 0), word)
            smaller = [land for land in ALL_LANDS if land.cells < probe_land(word).cells]
            self.assertNotIn(word, [sort_of(land, cell) for land in smaller for cell in range(land.cells)])

    def test_what_is_no_sort(self):
        for thing in ("road", "", "Far", None, 0, True, ["far"], ("far",), {}):
            self.assertEqual(caught(lambda: probe_land(thing)), ("BadSort", thing))

    def test_what_is_no_cell(self):
        every = on_all_lands(custom_at(0))
        for thing in (-1, 3, *NO_NUMBERS):
            for ask in (lambda: sort_of(ROW, thing), lambda: every.fewest(ROW, thing),
                        lambda: fewest_deeds(ROW, custom_at(0), thing), lambda: shutting(ROW, custom_at(0), thing)):
                self.assertEqual(caught(ask), ("BadCell", thing))


class Numbers(unittest.TestCase):

    def test_the_example(self):
        self.assertEqual(numbers(Custom("stay", "die", "beside", "need", "never"), Counted()), (1, 2, None))
        one = Custom("needed stay", "sleep", "need", "need", "free")
        self.assertEqual(numbers(one), (3, 3, 3))
        self.assertEqual(numbers(one, Counted(grants=False)), (4, 4, 4))
        self.assertEqual(numbers(one.changed("joined", "die"), Counted(grants=False)), (None,) * 3)
        self.assertEqual(numbers(Custom("stay", "sleep", "none", "all", "never"), Counted()), (1, 1, 1))

    def test_each_case_by_itself(self):
        base = dict(untold="stay", joined="die", sold="all", kept="all", ends="never")
        for given, counted, expected in [
                ({}, Counted(), (None,) * 3), (dict(kept="none"), Counted(), (1, 1, 1)),
                (dict(sold="beside"), Counted(), (1, None, None)), (dict(kept="beside"), Counted(), (1, None, None)),
                ({}, Counted(giving_up=True), (2, 2, 2)), (dict(untold="die"), Counted(), (2, 2, 2)),
                (dict(untold="die"), Counted(untold=False), (None,) * 3), (dict(untold="needed stay"), Counted(), (2,) * 3),
                (dict(sold="need", kept="beside"), Counted(), (1, 2, None)),
                (dict(sold="need", kept="need"), Counted(), (None,) * 3),
                (dict(sold="need", kept="need", untold="needed stay"), Counted(), (3,) * 3),
                (dict(sold="need", kept="need", untold="needed stay"), Counted(False), (None,) * 3),
                (dict(sold="need", kept="need", untold="needed stay", joined="sleep"), Counted(False), (4,) * 3),
                (dict(sold="need", kept="need", untold="needed stay", joined="sleep"), Counted(untold=False), (None,) * 3)]:
            self.assertEqual(numbers(Custom(**{**base, **given}), counted), expected, (given, vars(counted)))

    def test_all_customs_as_listed(self):
        for custom in customs():
            for counted in counteds():
                expected = tuple(number_told_again(custom, counted, sort) for sort in SORTS)
                self.assertEqual(numbers(custom, counted), expected)

    def test_against_the_tables_on_the_probe_lands(self):
        for sort in SORTS:
            land = probe_land(sort)
            for custom in customs():
                for counted in counteds():
                    number = on_all_lands(custom, counted).fewest(land, 0)
                    self.assertIs(is_never(land, custom, 0, counted), number is None)
                    if number is not None:
                        self.assertLessEqual(verdict_of(land, custom, 0, counted).steps, number)

    def test_the_fewest_against_all_states(self):
        for land, chosen in [(PAIR, range(192)), (probe_land("far"), range(3, 192, 17)), (ROW, range(0, 192, 23))]:
            for number in chosen:
                custom = custom_at(number)
                graph = state_graph(custom, land)
                for counted in counteds():
                    came = came_by(graph, counted)
                    for cell in range(land.cells):
                        many = min((came[state] for state in came if is_shut(land, state, cell)), default=None)
                        self.assertEqual(fewest_deeds(land, custom, cell, counted), many)

    def test_lands_of_three_cells_against_the_tables(self):
        for land in all_lands(3):
            for number in range(land.roads[0], 192, 7):
                for counted in counteds():
                    every = on_all_lands(custom_at(number), counted)
                    self.assertEqual(every.exposed(land), shuttable(land, custom_at(number), counted))

    def test_lands_of_four_cells_against_the_tables(self):
        for k, land in enumerate(all_lands(4)):
            for number in range(k, 192, 61):
                counted = list(counteds())[(k + number) % 8]
                every = on_all_lands(custom_at(number), counted)
                self.assertEqual(every.exposed(land), shuttable(land, custom_at(number), counted))

    def test_without_beside_the_three_are_equal(self):
        for custom in customs():
            if not custom.uses("beside"):
                self.assertTrue(all(len(set(numbers(custom, counted))) == 1 for counted in counteds()))


class Asking(unittest.TestCase):

    def test_fewest_and_exposed(self):
        every = on_all_lands(Custom("stay", "die", "beside", "need", "never"))
        self.assertEqual([every.fewest(FORK, cell) for cell in range(4)], [2, None, 2, None])
        self.assertEqual([every.fewest(ROW, cell) for cell in range(3)], [None, None, 1])
        self.assertEqual((every.exposed(FORK), every.exposed(ROW), every.exposed(PAIR)), ((0, 2), (2,), ()))
        self.assertEqual([fewest_deeds(ROW, every.custom, cell) for cell in range(3)], [None, None, 1])

    def test_nowhere_and_everywhere(self):
        for custom in customs():
            for counted in counteds():
                every = on_all_lands(custom, counted)
                three = (every.far, every.loose, every.bound)
                self.assertIs(every.nowhere, three == (None, None, None))
                self.assertIs(every.everywhere, None not in three)
                self.assertEqual((every.custom, every.counted), (custom, counted))
                self.assertIs(is_nowhere(custom.row, counted), every.nowhere)

    def test_numbers_that_no_function_has_told(self):
        for k in range(8):
            three = [2 if k >> place & 1 else None for place in range(3)]
            every = EveryLand(custom_at(0), Counted(), *three)
            self.assertIs(every.nowhere, k == 0)
            self.assertIs(every.everywhere, k == 7)
            self.assertEqual([every.fewest(probe_land(sort), 0) for sort in SORTS], three)

    def test_equal(self):
        one, other = custom_at(7), custom_at(8)
        self.assertTrue(on_all_lands(one) == on_all_lands(one, Counted()))
        self.assertTrue(on_all_lands(one) == EveryLand(one, Counted(), 9, 9, 9))
        self.assertFalse(on_all_lands(one) == on_all_lands(other))
        self.assertFalse(on_all_lands(one) == on_all_lands(one, Counted(False)))
        for thing in (None, one, (1, 1, 1), vars(on_all_lands(one))):
            self.assertFalse(on_all_lands(one) == thing)

    def test_counted_left_out_none_by_place_and_by_name(self):
        one = Custom("needed stay", "die", "need", "need", "never")
        for every in (on_all_lands(one), on_all_lands(one, None), on_all_lands(one, Counted()),
                      on_all_lands(custom=one, counted=None)):
            self.assertEqual((every.counted, every.far), (Counted(), 3))
        self.assertEqual(fewest_deeds(PAIR, one, 0, None), 3)
        self.assertIsNone(fewest_deeds(PAIR, one, 0, counted=Counted(False)))
        self.assertEqual(len(shutting(PAIR, one, 0)), 3)
        self.assertIsNone(shutting(PAIR, one, 0, counted=Counted(False)))

    def test_results_keep_what_they_are_passed(self):
        self.assertEqual(vars(EveryLand(1, 2, 3, 4, 5)), dict(custom=1, counted=2, far=3, loose=4, bound=5))


class Shutting(unittest.TestCase):

    def check(self, land, custom, cell, counted):
        many = fewest_deeds(land, custom, cell, counted)
        history = shutting(land, custom, cell, counted)
        if many is None:
            self.assertIsNone(history)
            return
        self.assertEqual((len(history), history.land, history.custom), (many, land, custom))
        self.assertIs(history.is_counted(counted), True)
        self.assertEqual(history.first_shut(cell), many)
        self.assertEqual(History(land, custom, history.deeds).state, history.state)

    def test_probe_lands_under_all_customs(self):
        for custom in customs():
            for counted in counteds():
                for sort in SORTS:
                    self.check(probe_land(sort), custom, 0, counted)

    def test_all_lands(self):
        for k, land in enumerate(ALL_LANDS + list(LANDS)):
            for number in range(k % 5, 192, 5):
                counted = list(counteds())[(k + number) % 8]
                for cell in range(land.cells):
                    self.check(land, custom_at(number), cell, counted)

    def test_road_cells(self):
        for custom in customs():
            self.assertIsNone(shutting(ROW, custom, 0, Counted(True, True, True)))

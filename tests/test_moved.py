"""[3.8]: other numbers of cells, other names of hands, and deeds left out."""

import unittest

from helpers import CHAIN, FORK, LANDS, NO_NUMBERS, PAIR, RING, ROW, caught, some_histories
from landways.customs import Custom, customs
from landways.histories import History
from landways.lands import MOST_HAND
from landways.likeness import all_orders, renumbered
from landways.moved import carried_deed, carried_history, carried_state, plain_hands, rehanded, trimmed
from landways.states import State

EXAMPLE = Custom("stay", "sleep", "none", "need", "free")
HISTORY = History(ROW, EXAMPLE, [("goes", [2], 1, []), ("grant", [2], [0, 1]), ("goes", [2], 0, []),
                                 ("goes", [1], 2, [(0, 1)])])
NO_ORDERS = (None, "012", 0, [], [0, 1], [0, 1, 2, 3], [0, 1, 1], [1, 2, 3], [0, True, 2], [0, 1, None], {0, 1, 2},
             range(3), [-1, 0, 1], [[0], 1, 2])
WITHOUT_NEED = [custom.number for custom in customs() if not custom.uses("need")]


def same_states(one, other):
    return list(one.states()) == list(other.states())


class Carried(unittest.TestCase):

    def test_deeds(self):
        order = [2, 0, 3, 1]
        self.assertEqual(carried_deed(order, ["goes", [0, 1], 7, [[0, 3], (3, 0)]]),
                         ("goes", (0, 2), 7, ((1, 2), (2, 1))))
        self.assertEqual(carried_deed(tuple(order), ("grant", [2, 0], [3, 1])), ("grant", (2, 3), (0, 1)))
        self.assertEqual(carried_deed(order, ("gives", (3,), (2,))), ("gives", (1,), (3,)))
        self.assertEqual(carried_deed([1, 0], ("goes", [0], 10 ** 30, [])), ("goes", (1,), 10 ** 30, ()))

    def test_states(self):
        state = State(ROW, [5, 6, 6], [["none", "awake", "none"], ["needed", "none", "asleep"], ["none"] * 3])
        led = carried_state([2, 0, 1], state)
        self.assertEqual((led.land, led.hands), (renumbered(ROW, [2, 0, 1]), (6, 6, 5)))
        self.assertEqual(led.standings, (("none", "asleep", "needed"), ("none",) * 3, ("awake", "none", "none")))

    def test_states_place_by_place(self):
        for history in some_histories(2, range(0, 192, 5), many=6):
            state = history.state
            for order in all_orders(history.land.cells)[::9]:
                led = carried_state(order, state)
                self.assertEqual(led.land, renumbered(history.land, order))
                for a in range(history.land.cells):
                    self.assertEqual(led.hand(order[a]), state.hand(a))
                    for b in range(history.land.cells):
                        self.assertEqual(led.standing(order[a], order[b]), state.standing(a, b))

    def test_histories(self):
        led = carried_history((2, 0, 1), HISTORY)
        self.assertEqual((led.land, led.custom), (renumbered(ROW, (2, 0, 1)), EXAMPLE))
        self.assertEqual(led.deeds, (("goes", (1,), 1, ()), ("grant", (1,), (0, 2)), ("goes", (1,), 0, ()),
                                     ("goes", (0,), 2, ((2, 0),))))
        self.assertEqual(carried_history([0, 1, 2], HISTORY), HISTORY)

    def test_without_need_the_states_are_carried(self):
        for history in some_histories(11, WITHOUT_NEED, many=8):
            for order in all_orders(history.land.cells)[1::17]:
                led = carried_history(order, history)
                self.assertEqual(list(led.states()), [carried_state(order, state) for state in history.states()])
                self.assertEqual(led.deeds, tuple(carried_deed(order, deed) for deed in history))

    def test_with_need_they_may_differ(self):
        custom = Custom("stay", "die", "need", "none", "never")
        history = History(RING, custom, [("goes", [1], 1, [])])
        led = carried_history([2, 1, 0, 3], history)
        self.assertEqual(led.land, RING)
        self.assertEqual(led.state, history.state)
        self.assertNotEqual(led.state, carried_state([2, 1, 0, 3], history.state))

    def test_wrong_orders(self):
        for order in NO_ORDERS:
            self.assertEqual(caught(lambda: carried_state(order, HISTORY.state)), ("BadCells", "order"))
            self.assertEqual(caught(lambda: carried_history(order, HISTORY)), ("BadCells", "order"))
        for order in (None, "01", 0, [], [0], [0, 1, 2, 3, 4, 5], [0, 2], [1, 1], [0, True], {0, 1}, range(2), [1, 2]):
            self.assertEqual(caught(lambda: carried_deed(order, ("goes", [0], 1, []))), ("BadCells", "order"))

    def test_lists_are_left_as_they_are(self):
        order, deed = [1, 0, 2], ["goes", [2, 0], 1, [[0, 1]]]
        carried_deed(order, deed)
        carried_history(order, HISTORY)
        self.assertEqual((order, deed), ([1, 0, 2], ["goes", [2, 0], 1, [[0, 1]]]))


class Rehanded(unittest.TestCase):

    def test_new_names(self):
        other = rehanded(HISTORY, [(1, 8), [2, 1]])
        self.assertEqual([deed[2] for deed in other if deed[0] == "goes"], [8, 0, 1])
        self.assertEqual((other.land, other.custom), (ROW, EXAMPLE))
        self.assertEqual(other.deeds[1], HISTORY.deeds[1])
        self.assertEqual(other.deeds[3][3], ((0, 1),))
        self.assertTrue(same_states(other, HISTORY))

    def test_hands_that_are_no_old_one_stay(self):
        self.assertEqual(rehanded(HISTORY, []), HISTORY)
        self.assertEqual(rehanded(HISTORY, ((7, 9), (0, 0), (9, 7))), HISTORY)
        self.assertEqual([deed[2] for deed in rehanded(HISTORY, ((2, MOST_HAND),)) if deed[0] == "goes"],
                         [1, 0, MOST_HAND])
        self.assertEqual([deed[2] for deed in rehanded(HISTORY, [(1, 2), (2, 1)]) if deed[0] == "goes"], [2, 0, 1])

    def test_wrong_pairs(self):
        for pairs in (None, 0, "", "12", {1: 2}, {(1, 2)}, [1, 2], [None], [(1,)], [(1, 2, 3)], ["12"], [(1, -1)],
                      [(1, MOST_HAND + 1)], [(True, 2)], [(1, False)], [(1, None)], [(1, "2")], [{1, 2}],
                      [(1, 3), (1, 4)], [(1, 3), [1, 3]], [(9, 3), (9, 3)], [(0, 1), (0, 1)]):
            self.assertEqual(caught(lambda: rehanded(HISTORY, pairs)), ("BadPairs", "pairs"), pairs)

    def test_the_start(self):
        for pairs in ([(0, 1)], [(1, 0), (0, 3)], [(5, 6), (0, 9)]):
            self.assertEqual(caught(lambda: rehanded(HISTORY, pairs)), ("BadPairs", "start"))

    def test_alike(self):
        for pairs in ([(1, 0)], [(1, 2)], [(1, 7), (2, 7)], [(2, 1)], [(2, 0), (0, 0)]):
            self.assertEqual(caught(lambda: rehanded(HISTORY, pairs)), ("BadPairs", "alike"))
        for pairs in ([(5, 1)], [(5, 6), (7, 6)], [(5, 0)]):
            self.assertEqual(rehanded(HISTORY, pairs), HISTORY)
        self.assertEqual(caught(lambda: rehanded(History(ROW, EXAMPLE), [(1, 0), (2, 1)])), None)

    def test_hand_0_counts_where_no_deed_names_it(self):
        history = History(ROW, EXAMPLE, [("goes", [2], 1, [])])
        self.assertEqual(caught(lambda: rehanded(history, [(1, 0)])), ("BadPairs", "alike"))
        self.assertEqual(rehanded(history, [(2, 0), (5, 1)]), history)

    def test_states_stay_equal(self):
        for history in some_histories(13, many=9):
            other = rehanded(history, [(1, 4), (2, 10 ** 30), (4, 2)])
            self.assertTrue(same_states(history, other))


class PlainHands(unittest.TestCase):

    def test_as_they_are_first_named(self):
        deeds = [("goes", [0], 7, []), ("goes", [1], 10 ** 30, []), ("goes", [2], 7, []), ("goes", [0], 0, []),
                 ("grant", [0], [1]), ("goes", [0], 2, [(1, 0)]), ("goes", [1], 1, [])]
        history = plain_hands(History(ROW, EXAMPLE, deeds))
        self.assertEqual([deed[2] for deed in history if deed[0] == "goes"], [1, 2, 1, 0, 3, 4])
        self.assertEqual(history.deeds[4:6], (("grant", (0,), (1,)), ("goes", (0,), 3, ((1, 0),))))
        self.assertEqual(plain_hands(history), history)

    def test_without_deeds(self):
        self.assertEqual(plain_hands(History(ROW, EXAMPLE)), History(ROW, EXAMPLE))

    def test_states_stay_equal(self):
        for history in some_histories(14, many=9):
            other = plain_hands(rehanded(history, [(1, 10 ** 9), (3, 1)]))
            self.assertEqual(other, plain_hands(history))
            self.assertTrue(same_states(history, other))


class Trimmed(unittest.TestCase):

    def test_deeds_that_change_nothing(self):
        deeds = [("goes", [2], 1, []), ("gives", [2], [0, 1]), ("grant", [2], [0]), ("grant", [2], [0]),
                 ("grant", [2], [0, 1]), ("gives", [0], [2]), ("gives", [2], [0]), ("goes", [0], 5, [])]
        history = trimmed(History(ROW, EXAMPLE, deeds))
        self.assertEqual(history, History(ROW, EXAMPLE, [deeds[0], deeds[2], deeds[4], deeds[6], deeds[7]]))

    def test_deeds_that_go_always_stay(self):
        deeds = [("goes", [2], 1, []), ("goes", [2], 3, []), ("goes", [0, 1], 4, [])]
        self.assertEqual(trimmed(History(ROW, EXAMPLE, deeds)), History(ROW, EXAMPLE, deeds))

    def test_grants_that_end_other_rights_stay(self):
        custom = Custom("stay", "die", "need", "none", "free")
        deeds = [("goes", [1], 1, []), ("grant", [1], [2]), ("gives", [1], [0])]
        self.assertEqual(len(trimmed(History(RING, custom, deeds))), 2)

    def test_states_stay_and_nothing_more_is_left_out(self):
        for history in some_histories(15, many=14):
            short = trimmed(history)
            self.assertEqual(short.state, history.state)
            kept = [deed for k, deed in enumerate(history)
                    if deed[0] == "goes" or history.state_at(k) != history.state_at(k + 1)]
            self.assertEqual(short, History(history.land, history.custom, kept))
            self.assertEqual(trimmed(short), short)


class Lands(unittest.TestCase):

    def test_carried_and_back(self):
        for history in some_histories(16, WITHOUT_NEED[::3], many=6, lands=(PAIR, CHAIN, FORK)):
            for order in all_orders(history.land.cells)[::13]:
                back = [order.index(k) for k in range(history.land.cells)]
                self.assertEqual(carried_history(back, carried_history(order, history)), history)
        self.assertEqual(len(LANDS), 6)
        for thing in NO_NUMBERS:
            self.assertEqual(caught(lambda: carried_deed([0, thing], ("goes", [0], 1, []))), ("BadCells", "order"))

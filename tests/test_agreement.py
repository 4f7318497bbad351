"""[4.10], and 1.4, 1.5, 3.8 as views see them: what a view tells agrees with the states, for all histories."""

import random
import unittest

from helpers import CHAIN, FORK, LANDS, PAIR, RING, ROW, some_histories
from landways.counted import counteds
from landways.customs import Custom, customs
from landways.deeds import is_counted
from landways.histories import History
from landways.lands import Land
from landways.likeness import all_orders, led_lot
from landways.listing import plain_step, plain_steps
from landways.moved import carried_history, plain_hands, rehanded, trimmed
from landways.reasons import ledger
from landways.seeing import is_settled_view, see_step, step_changes, step_of
from landways.states import State
from landways.steps import Come, Leave
from landways.tables import view_table
from landways.views import view_of
from landways.viewtext import view_text
from landways.walks import view_walk

STAR = Land(4, [(0, 1), (0, 2), (0, 3)], [3])


class Deeds(unittest.TestCase):
    """Each deed of drawn histories as a step of each cell."""

    def follow(self, history):
        rows = list(ledger(history))
        for index, deed in enumerate(history):
            ahead, behind = history.state_at(index), history.state_at(index + 1)
            for cell in range(history.land.cells):
                changes = [(row[1], *row[3:]) for row in rows if row[0] == index and row[2] == cell]
                self.compare(history.custom, cell, deed, ahead, behind, changes)

    def compare(self, custom, cell, deed, ahead, behind, changes):
        view, step = view_of(ahead, cell), step_of(ahead, cell, deed)
        self.assertIs(is_settled_view(custom, view), True)
        if step is None:
            self.assertEqual(view_of(behind, cell), view)
            self.assertEqual(changes, [])
            return
        self.assertEqual(view_of(behind, cell), see_step(custom, view, step))
        self.assertEqual(list(step_changes(custom, view, step)), changes)
        plain = plain_step(custom, view, step)
        self.assertIs(plain is None, view_of(behind, cell) == view)
        if plain is not None:
            self.assertEqual(view_of(behind, cell), see_step(custom, view, plain))
            for counted in counteds():
                if is_counted(counted, ahead, deed):
                    self.assertIn(plain, list(plain_steps(custom, view, counted)))

    def test_two_and_three_cells(self):
        for history in some_histories(61, many=9, lands=(PAIR, ROW, Land(3, [(0, 1), (0, 2)], [1, 2]))):
            self.follow(history)

    def test_four_cells(self):
        for history in some_histories(62, many=8, lands=(FORK, RING, STAR)):
            self.follow(history)

    def test_five_cells(self):
        for history in some_histories(63, range(0, 192, 4), many=6, lands=LANDS[4:]):
            self.follow(history)

    def test_the_example(self):
        one = Custom("needed stay", "sleep", "none", "need", "never")
        deeds = [("goes", [0, 1], 1, []), ("goes", [1], 0, []), ("goes", [1, 0], 2, [(2, 1)]), ("goes", [1], 3, [])]
        history = History(ROW, one, deeds)
        self.follow(history)
        texts = [view_text(view) for view, _ in view_walk(history, 2)]
        self.assertEqual(texts, ["2: oo", "2: nn", "2: ns", "2: na", "2: n."])


class OtherNames(unittest.TestCase):
    """Other names of hands, deeds that do nothing, and other numbers of cells."""

    def test_names_of_hands(self):
        for history in some_histories(65, range(0, 192, 5), many=8):
            other = rehanded(history, [(1, 7), (2, 10 ** 30)])
            for cell in range(history.land.cells):
                walk = [view for view, _ in view_walk(history, cell)]
                self.assertEqual([view for view, _ in view_walk(other, cell)], walk)
                self.assertEqual([view for view, _ in view_walk(plain_hands(history), cell)], walk)

    def test_deeds_that_do_nothing(self):
        for history in some_histories(66, range(0, 192, 5), many=12):
            short = trimmed(history)
            for cell in range(history.land.cells):
                self.assertEqual(view_of(short.state, cell), view_of(history.state, cell))
                steps = [step for _, step in view_walk(history, cell) if step is not None]
                self.assertEqual([step for _, step in view_walk(short, cell) if step is not None], steps)

    def test_numbers_of_cells_without_need(self):
        plain = [one.number for one in customs() if not one.uses("need")]
        for history in some_histories(67, plain[::3], many=7, lands=(ROW, RING, CHAIN)):
            for order in all_orders(history.land.cells)[::11]:
                led = carried_history(order, history)
                for cell in range(history.land.cells):
                    for one, other in zip(view_walk(history, cell), view_walk(led, order[cell])):
                        self.assertEqual(led_lot(order, one[0].own), other[0].own)
                        self.assertEqual(led_lot(order, one[0].rights), other[0].rights)
                        self.assertEqual(led_lot(order, one[0].sleeping), other[0].sleeping)
                        self.assertEqual(one[0].is_open(), other[0].is_open())
                        self.assertEqual(one[1] is None, other[1] is None)

    def test_tables_of_renumbered_lands(self):
        for one in list(customs())[::7]:
            if not one.uses("need"):
                distances = sorted(row[1] for row in view_table(ROW, one, 2))
                for order in all_orders(3):
                    led = carried_history(order, History(ROW, one))
                    table = view_table(led.land, one, order[2])
                    self.assertEqual(sorted(row[1] for row in table), distances)


class NothingElseMatters(unittest.TestCase):
    """States that look alike from a cell look alike behind the same step, whatever else is in them."""

    def test_standings_of_others(self):
        source = random.Random(68)
        for custom in list(customs())[::4]:
            hands = [0, 1, 1, 2]
            words = [["none", "awake", "none", "needed"]]
            states = []
            for _ in range(2):
                rows = [[source.choice(["none", "awake"]) if hands[a] != hands[b] else "none" for b in range(4)]
                        for a in (1, 2, 3)]
                states.append(State(RING, hands, words + rows))
            for deed, step in [(("goes", [1], 9, []), Leave([], [1])), (("goes", [3, 2], 0, []), Come([2, 3]))]:
                self.assertEqual([step_of(state, 0, deed) for state in states], [step, step])
                views = [see_step(custom, view_of(state, 0), step) for state in states]
                self.assertEqual(views[0], views[1])

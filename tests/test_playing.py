"""[3.3]: what becomes of rights, stage by stage."""

import random
import unittest

import oracle
from helpers import CHAIN, FORK, LANDS, PAIR, RING, ROW, caught, some_deed, some_histories
from landways.customs import Custom, custom_at, customs
from landways.deeds import deed_fault
from landways.lands import Land
from landways.playing import after, is_settled_state, settled_state, stages
from landways.states import State, start_state

GOES = ["hands", "untold", "joined", "woken", "arisen", "ended"]
LINE = Land(4, [(0, 1), (1, 2), (2, 3)], [0])
BARE = dict(untold="stay", joined="die", sold="none", kept="none", ends="never")


def custom(**given):
    return Custom(**{**BARE, **given})


def made(land, hands, words):
    """A state of the land with these words at their places."""
    table = [["none"] * land.cells for _ in range(land.cells)]
    for (a, b), word in words.items():
        table[a][b] = word
    return State(land, hands, table)


def words_of(standings):
    """The words other than none, by their places."""
    return {(a, b): word for a, row in enumerate(standings) for b, word in enumerate(row) if word != "none"}


def behind(one, state, deed, stage=None):
    """The words behind a stage of a deed, or behind all of it."""
    if stage is None:
        return words_of(after(one, state, deed).standings)
    return words_of([standings for word, _, standings in stages(one, state, deed) if word == stage][0])


class Stages(unittest.TestCase):

    def test_six_or_two_in_order(self):
        state = made(ROW, [0, 0, 1], {})
        for one in customs():
            rows = list(stages(one, state, ("goes", [0], 5, [])))
            self.assertEqual([row[0] for row in rows], GOES)
            self.assertEqual([row[1] for row in rows], [(5, 0, 1)] * 6)
            rows = list(stages(one, state, ("grant", [0], [2])))
            self.assertEqual([row[0] for row in rows], ["granted", "ended"])
            self.assertEqual([row[1] for row in rows], [(0, 0, 1)] * 2)
            rows = list(stages(one, state, ["gives", (2,), (0, 1)]))
            self.assertEqual([row[0] for row in rows], ["given", "ended"])

    def test_all_is_tuples(self):
        for row in stages(custom(sold="all"), start_state(ROW), ["goes", [2], 1, []]):
            word, hands, standings = row
            self.assertIsInstance(row, tuple)
            self.assertIsInstance(hands, tuple)
            self.assertEqual([type(words) for words in (standings, *standings)], [tuple] * 4)

    def test_deeds_that_cannot_be_done(self):
        state = made(ROW, [0, 0, 1], {})
        for deed, word in [(("goes", [0]), "deed"), (("goes", [5], 0, []), "cells"), (("goes", [0], -1, []), "hand"),
                           (("goes", [0], 0, [(0, 0)]), "told"), (("goes", [0], 0, []), "still"),
                           (("grant", [0, 2], [1]), "one"), (("gives", [0], [1]), "same")]:
            self.assertEqual(caught(lambda: after(custom(), state, deed)), ("BadDeed", word))
            self.assertEqual(caught(lambda: list(stages(custom(), state, deed))), ("BadDeed", word))

    def test_after_is_the_last_stage(self):
        for history in some_histories(3, many=6):
            for index, deed in enumerate(history):
                state = history.state_at(index)
                rows = list(stages(history.custom, state, deed))
                state = after(history.custom, state, deed)
                self.assertEqual((state.hands, state.standings), rows[-1][1:])

    def test_nothing_passed_in_is_changed(self):
        deed = ["goes", [2, 1], 1, [[0, 1]]]
        state = start_state(ROW)
        after(custom(kept="need"), state, deed)
        self.assertEqual(deed, ["goes", [2, 1], 1, [[0, 1]]])
        self.assertEqual(state, start_state(ROW))


class Untold(unittest.TestCase):

    STATE = made(LINE, [0, 1, 2, 3], {(0, 2): "awake", (1, 2): "needed", (2, 0): "awake", (3, 0): "needed"})

    def test_each_word(self):
        deed = ("goes", [2], 9, [])
        rest = {(2, 0): "awake", (3, 0): "needed"}
        for word, left in [("stay", {(0, 2): "awake", (1, 2): "needed"}), ("die", {}),
                           ("needed stay", {(1, 2): "needed"})]:
            self.assertEqual(behind(custom(untold=word), self.STATE, deed), {**rest, **left})

    def test_told_couples_stay(self):
        for told in ([(0, 2)], [[0, 2], (2, 0), (1, 3)]):
            left = behind(custom(untold="die"), self.STATE, ("goes", [2], 9, told))
            self.assertEqual(left, {(0, 2): "awake", (2, 0): "awake", (3, 0): "needed"})

    def test_couples_the_other_way_round_are_not_told(self):
        left = behind(custom(untold="die"), self.STATE, ("goes", [2], 9, [(2, 0), (2, 1)]))
        self.assertEqual(left, {(2, 0): "awake", (3, 0): "needed"})

    def test_into_the_hand_of_the_cell_that_has_the_right(self):
        deed = ("goes", [2], 0, [])
        self.assertEqual(behind(custom(untold="die"), self.STATE, deed, "untold"),
                         {(0, 2): "awake", (2, 0): "awake", (3, 0): "needed"})
        self.assertEqual(behind(custom(untold="die", joined="sleep"), self.STATE, deed),
                         {(0, 2): "asleep", (2, 0): "asleep", (3, 0): "needed"})

    def test_both_go_at_once(self):
        self.assertEqual(behind(custom(untold="die"), self.STATE, ("goes", [0, 1, 2], 9, []), "untold"),
                         {(0, 2): "awake", (1, 2): "needed", (2, 0): "awake"})


class Joined(unittest.TestCase):

    STATE = made(LINE, [0, 1, 2, 2], {(0, 1): "awake", (1, 0): "needed", (0, 2): "needed", (2, 3): "asleep"})

    def test_each_word(self):
        for deed in (("goes", [0], 1, []), ("goes", [0, 1], 7, [(0, 2), (1, 0)]), ("goes", [1], 0, [])):
            self.assertEqual(behind(custom(), self.STATE, deed), {(0, 2): "needed", (2, 3): "asleep"})
            self.assertEqual(behind(custom(joined="sleep"), self.STATE, deed),
                             {(0, 1): "asleep", (1, 0): "asleep", (0, 2): "needed", (2, 3): "asleep"})

    def test_all_into_one_hand(self):
        self.assertEqual(behind(custom(joined="sleep"), self.STATE, ("goes", [0, 1], 2, [])),
                         {(0, 1): "asleep", (1, 0): "asleep", (0, 2): "asleep", (2, 3): "asleep"})
        self.assertEqual(behind(custom(), self.STATE, ("goes", [0, 1], 2, [])), {(2, 3): "asleep"})


class Woken(unittest.TestCase):

    STATE = made(LINE, [0, 0, 0, 0], {(0, 1): "asleep", (1, 0): "asleep", (2, 3): "asleep"})

    def test_parted_couples_wake(self):
        for one in customs():
            self.assertEqual(behind(one, self.STATE, ("goes", [1], 4, []), "woken"),
                             {(0, 1): "awake", (1, 0): "awake", (2, 3): "asleep"})
            self.assertEqual(behind(one, self.STATE, ("goes", [0, 1], 4, []), "woken"), words_of(self.STATE.standings))

    def test_a_needed_right_sleeps_and_wakes_as_awake(self):
        one = custom(joined="sleep")
        state = made(PAIR, [0, 1], {(0, 1): "needed"})
        state = after(one, state, ("goes", [0], 1, []))
        self.assertEqual(words_of(state.standings), {(0, 1): "asleep"})
        state = after(one, state, ("goes", [0], 0, []))
        self.assertEqual(words_of(state.standings), {(0, 1): "awake"})


class Arisen(unittest.TestCase):

    def test_none_and_all(self):
        deed = ("goes", [2], 1, [])
        state = start_state(ROW)
        self.assertEqual(behind(custom(), state, deed), {})
        self.assertEqual(behind(custom(sold="all"), state, deed), {(2, 0): "awake", (2, 1): "awake"})
        self.assertEqual(behind(custom(kept="all"), state, deed), {(0, 2): "awake", (1, 2): "awake"})

    def test_beside(self):
        deed = ("goes", [2], 1, [])
        state = start_state(ROW)
        self.assertEqual(behind(custom(sold="beside"), state, deed), {(2, 1): "awake"})
        self.assertEqual(behind(custom(kept="beside"), state, deed), {(1, 2): "awake"})

    def test_need_with_a_least_lot(self):
        self.assertEqual(behind(custom(sold="need"), start_state(ROW), ("goes", [2], 1, [])),
                         {(2, 0): "needed", (2, 1): "needed"})
        self.assertEqual(behind(custom(kept="need"), start_state(ROW), ("goes", [0], 1, [])),
                         {(1, 0): "needed", (2, 0): "needed"})
        self.assertEqual(behind(custom(sold="need"), start_state(RING), ("goes", [1], 1, [])), {(1, 0): "needed"})
        self.assertEqual(behind(custom(sold="need"), start_state(CHAIN), ("goes", [3, 1], 1, [])),
                         {(1, 0): "needed", (3, 0): "needed", (3, 2): "needed"})

    def test_an_open_cell_needs_nothing(self):
        self.assertEqual(behind(custom(sold="need", kept="need"), start_state(ROW), ("goes", [0, 1], 1, [])),
                         {(2, 0): "needed", (2, 1): "needed"})
        self.assertEqual(behind(custom(sold="need", kept="need"), start_state(RING), ("goes", [2, 3], 1, [])), {})

    def test_need_without_a_least_lot(self):
        state = made(ROW, [0, 1, 1], {})
        self.assertEqual(behind(custom(sold="need", kept="need"), state, ("goes", [1], 2, [])), {})
        self.assertEqual(after(custom(sold="need", kept="need"), state, ("goes", [2], 2, [])).shut, (1, 2))

    def test_only_parted_couples_that_stand_at_none_are_asked(self):
        state = made(CHAIN, [0, 1, 1, 1, 1], {(2, 0): "awake", (3, 2): "asleep"})
        self.assertEqual(behind(custom(kept="need", joined="sleep"), state, ("goes", [1, 2], 5, [])),
                         {(2, 0): "awake", (3, 2): "awake"})
        state = made(CHAIN, [0, 1, 1, 1, 1], {(3, 0): "awake", (3, 2): "asleep"})
        self.assertEqual(behind(custom(kept="need", joined="sleep"), state, ("goes", [1, 2], 5, [])),
                         {(3, 0): "awake", (3, 1): "needed", (3, 2): "awake"})

    def test_rights_that_stand_are_used(self):
        state = made(FORK, [0, 0, 0, 1], {(0, 3): "awake"})
        self.assertEqual(behind(custom(sold="need"), state, ("goes", [0], 5, [])),
                         {(0, 3): "awake", (0, 1): "needed"})
        state = made(FORK, [0, 1, 0, 1], {(0, 3): "awake"})
        self.assertEqual(behind(custom(sold="need"), state, ("goes", [0], 5, [])),
                         {(0, 3): "awake", (0, 2): "needed"})

    def test_couples_that_were_of_unlike_hands_get_nothing(self):
        state = made(ROW, [0, 1, 1], {})
        self.assertEqual(behind(custom(sold="all", kept="all"), state, ("goes", [1], 2, [])),
                         {(1, 2): "awake", (2, 1): "awake"})
        self.assertEqual(behind(custom(sold="all", kept="all"), state, ("goes", [1], 0, [])),
                         {(1, 2): "awake", (2, 1): "awake"})

    def test_a_right_that_sleeps_wakes_and_does_not_arise(self):
        state = made(PAIR, [0, 0], {(0, 1): "asleep"})
        self.assertEqual(behind(custom(sold="need", joined="sleep"), state, ("goes", [0], 1, [])), {(0, 1): "awake"})


class Ended(unittest.TestCase):

    def test_never_and_free(self):
        state = made(LINE, [0, 1, 2, 3], {(1, 0): "needed", (1, 2): "needed", (1, 3): "awake"})
        deed = ("grant", [0], [1])
        self.assertEqual(behind(custom(), state, deed),
                         {(1, 0): "needed", (1, 2): "needed", (1, 3): "awake", (0, 1): "awake"})
        self.assertEqual(behind(custom(ends="free"), state, deed),
                         {(1, 0): "needed", (1, 3): "awake", (0, 1): "awake"})

    def test_earlier_ends_count_for_the_later_ones(self):
        state = made(RING, [0, 1, 2, 3], {(1, 0): "needed", (1, 2): "needed"})
        self.assertEqual(behind(custom(ends="free"), state, ("grant", [0], [1])),
                         {(1, 2): "needed", (0, 1): "awake"})
        state = made(RING, [0, 1, 2, 3], {(1, 0): "needed", (1, 2): "needed", (1, 3): "needed"})
        self.assertEqual(words_of(settled_state(custom(ends="free"), state).standings), {(1, 2): "needed"})

    def test_a_shut_cell_keeps_what_it_needs(self):
        state = made(LINE, [0, 1, 2, 3], {(3, 2): "needed", (3, 1): "needed"})
        self.assertEqual(words_of(settled_state(custom(ends="free"), state).standings),
                         {(3, 2): "needed", (3, 1): "needed"})

    def test_a_road_cell_keeps_no_needed_right(self):
        state = made(ROW, [0, 1, 2], {(0, 1): "needed", (0, 2): "awake"})
        self.assertEqual(words_of(settled_state(custom(ends="free"), state).standings), {(0, 2): "awake"})

    def test_each_cell_is_gone_through(self):
        state = made(RING, [0, 1, 1, 3], {(1, 0): "needed", (3, 0): "needed", (3, 2): "needed"})
        self.assertEqual(words_of(settled_state(custom(ends="free"), state).standings), {(3, 2): "needed"})

    def test_a_way_that_opens_later_ends_a_right(self):
        one = custom(sold="need", ends="free")
        state = after(one, start_state(RING), ("goes", [1], 1, []))
        self.assertEqual(words_of(state.standings), {(1, 0): "needed"})
        self.assertEqual(behind(one, state, ("grant", [1], [2])), {(1, 2): "awake"})
        self.assertEqual(behind(one, state, ("goes", [2], 1, [])), {})

    def test_settled(self):
        state = made(RING, [0, 1, 2, 3], {(1, 0): "needed", (1, 2): "needed"})
        self.assertIs(is_settled_state(custom(), state), True)
        self.assertIs(is_settled_state(custom(ends="free"), state), False)
        self.assertEqual(settled_state(custom(), state), state)
        self.assertIs(is_settled_state(custom(ends="free"), settled_state(custom(ends="free"), state)), True)

    def test_states_behind_deeds_are_settled(self):
        for history in some_histories(8, many=10):
            for state in history.states():
                self.assertIs(is_settled_state(history.custom, state), True)
                self.assertEqual(settled_state(history.custom, state), state)


class Gifts(unittest.TestCase):

    STATE = made(LINE, [0, 0, 1, 1], {(0, 2): "awake", (1, 2): "needed", (2, 3): "asleep", (2, 0): "awake"})

    def test_grant(self):
        rest = {(2, 3): "asleep", (2, 0): "awake"}
        for one in customs():
            self.assertEqual(behind(one, self.STATE, ("grant", [1, 0], [3, 2]), "granted"),
                             {**rest, (0, 2): "awake", (0, 3): "awake", (1, 2): "awake", (1, 3): "awake"})
        self.assertEqual(behind(custom(), self.STATE, ("grant", [1], [2])),
                         {**rest, (0, 2): "awake", (1, 2): "awake"})

    def test_gives(self):
        for one in customs():
            self.assertEqual(behind(one, self.STATE, ("gives", [1, 0], [3, 2]), "given"),
                             {(2, 3): "asleep", (2, 0): "awake"})
        self.assertEqual(behind(custom(), self.STATE, ("gives", [2], [0, 1])),
                         {(0, 2): "awake", (1, 2): "needed", (2, 3): "asleep"})


class ToldAgain(unittest.TestCase):
    """All stages as the second telling of part 3 has them."""

    def compare(self, one, state, deed):
        expected = oracle.stages(one, state.land, state.hands, state.standings, deed)
        self.assertEqual(list(stages(one, state, deed)), expected)

    def test_histories_under_all_customs(self):
        for seed in range(3):
            lands = LANDS[seed:] + LANDS[:seed]
            for history in some_histories(seed, many=10, lands=lands):
                for index, deed in enumerate(history):
                    self.compare(history.custom, history.state_at(index), deed)

    def test_states_that_no_history_brings_about(self):
        source = random.Random(23)
        for number in range(192):
            land = LANDS[number % len(LANDS)]
            for _ in range(8):
                hands = [source.randint(0, 2) for _ in range(land.cells)]
                words = {(a, b): source.choice(["none", "asleep"] if hands[a] == hands[b]
                                               else ["none", "awake", "needed", "needed"]) for a, b in land.couples}
                state = made(land, hands, words)
                deed = some_deed(source, state)
                if deed_fault(state, deed) is None:
                    self.compare(custom_at(number), state, deed)

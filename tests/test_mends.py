"""[10.6], [10.7]: choices of changes that mend a custom."""

import random
import unittest

from helpers import NO_NUMBERS, PAIR, RING, ROW, VEE, caught, some_deeds, tuples_only
from landways.changes import Change, Pool, every_change, is_lesser
from landways.counted import Counted
from landways.customs import CLAUSES, Custom, custom_at, customs, differences
from landways.histories import History
from landways.lands import Land
from landways.mendjudge import mends_fault
from landways.mends import Mends, good_choices, least_mends, nearest_customs, saving_choices, spoiling_changes
from landways.wishes import Broken, EveryLandWish, Kept, LandWish, Wish, judge_wish
from test_changes import drawn_pools
from test_wishes import drawn_wishes

EXAMPLE_LAND = Land(2, [(0, 1)], [0])
BARE = Custom("stay", "die", "none", "none", "never")
POOL = Pool([Change("sold", "all"), Change("kept", "all"), Change("untold", "die")])
WISH = LandWish(EXAMPLE_LAND, [1])


def drawn_cases(seed, many):
    """Customs, pools and wishes."""
    source = random.Random(seed)
    for pool, wish in zip(drawn_pools(seed + 1, many), drawn_wishes(seed + 2, many)):
        yield custom_at(source.randrange(192)), pool, wish


def keeps(wish, custom):
    return isinstance(judge_wish(wish, custom), Kept)


class Choices(unittest.TestCase):

    def test_good_choices(self):
        for custom, pool, wish in drawn_cases(451, 80):
            expected = tuple(choice for choice in pool.lawful_choices() if keeps(wish, pool.custom_by(custom, choice)))
            self.assertEqual(good_choices(custom, pool, wish), expected)
            self.assertTrue(tuples_only(expected))

    def least_told_again(self, custom, pool, wish):
        good, bad = [], []
        for choice in pool.lawful_choices():
            if not [one for one in good if set(one) < set(choice)]:
                (good if keeps(wish, pool.custom_by(custom, choice)) else bad).append(choice)
        return good, bad

    def test_least_mends(self):
        found = set()
        for custom, pool, wish in drawn_cases(452, 80):
            mends = least_mends(custom, pool, wish)
            self.assertIsInstance(mends, Mends)
            good, bad = self.least_told_again(custom, pool, wish)
            self.assertEqual([choice for choice, _ in mends.good], good)
            self.assertEqual([choice for choice, _ in mends.bad], bad)
            for rows, kind in ((mends.good, Kept), (mends.bad, Broken)):
                self.assertIsInstance(rows, tuple)
                for choice, told in rows:
                    self.assertIsInstance(told, kind)
                    self.assertEqual((told.wish, told.custom), (wish, pool.custom_by(custom, choice)))
            self.assertIsNone(mends_fault(custom, pool, wish, mends))
            found.add((len(good) > 0, len(good) > 1, ((), ) == tuple(good)))
        self.assertLessEqual({(True, False, True), (False, False, False), (True, False, False), (True, True, False)}, found)

    def test_spoiling_changes(self):
        many = 0
        for custom, pool, wish in drawn_cases(453, 100):
            good, _ = self.least_told_again(custom, pool, wish)
            lawful = list(pool.lawful_choices())
            expected = []
            for choice in good:
                for index in range(len(pool)):
                    longer = tuple(sorted({*choice, index}))
                    if index not in choice and longer in lawful and not keeps(wish, pool.custom_by(custom, longer)):
                        expected.append((choice, index))
            told = spoiling_changes(custom, pool, wish)
            self.assertIsInstance(told, tuple)
            self.assertEqual([row[:2] for row in told], expected)
            for choice, index, broken in told:
                self.assertIsInstance(broken, Broken)
                self.assertEqual((broken.wish, broken.custom),
                                 (wish, pool.custom_by(custom, tuple(sorted([*choice, index])))))
            many += len(told)
        self.assertGreater(many, 5)

    def test_the_example(self):
        self.assertEqual(good_choices(BARE, POOL, WISH), ((0, 1),))
        told = spoiling_changes(BARE, POOL, WISH)
        self.assertEqual([row[:2] for row in told], [((0, 1), 2)])
        self.assertEqual((told[0][2].thing, told[0][2].paper.steps), (("shut", (1,)), 2))
        mends = least_mends(BARE, POOL, WISH)
        self.assertEqual([choice for choice, _ in mends.good], [(0, 1)])
        self.assertEqual([choice for choice, _ in mends.bad], [(), (0,), (1,), (2,), (0, 2), (1, 2)])

    def test_the_empty_choice(self):
        kind = Custom("stay", "die", "all", "all", "never")
        mends = least_mends(kind, POOL, WISH)
        self.assertEqual(([choice for choice, _ in mends.good], mends.bad), ([()], ()))
        self.assertEqual([row[:2] for row in spoiling_changes(kind, POOL, WISH)], [((), 2)])
        self.assertEqual(good_choices(kind, POOL, WISH), ((), (0,), (1,), (0, 1)))

    def test_equal_changes_in_a_pool(self):
        pool = Pool([Change("sold", "all"), Change("kept", "all"), Change("sold", "all"), Change("kept", "all")])
        self.assertEqual(good_choices(BARE, pool, WISH), ((0, 1), (0, 3), (1, 2), (2, 3)))
        mends = least_mends(BARE, pool, WISH)
        self.assertEqual([choice for choice, _ in mends.good], [(0, 1), (0, 3), (1, 2), (2, 3)])
        self.assertEqual([choice for choice, _ in mends.bad], [(), (0,), (1,), (2,), (3,)])

    def test_changes_that_change_nothing(self):
        pool = Pool([Change("sold", "none"), Change("ends", "never")])
        self.assertEqual(good_choices(BARE, pool, Wish()), ((), (0,), (1,), (0, 1)))
        self.assertEqual(good_choices(BARE, pool, WISH), ())
        mends = least_mends(BARE, pool, WISH)
        self.assertEqual((mends.good, [choice for choice, _ in mends.bad]), ((), [(), (0,), (1,), (0, 1)]))

    def test_a_pool_of_ten_changes(self):
        pool = Pool(list(every_change(BARE)))
        wish = EveryLandWish(["far", "loose", "bound"], Counted(True, True, False))
        good = good_choices(BARE, pool, wish)
        self.assertEqual(good, tuple(choice for choice in pool.lawful_choices() if keeps(wish, pool.custom_by(BARE, choice))))
        least = [choice for choice in good if not [one for one in good if is_lesser(one, choice)]]
        self.assertEqual([choice for choice, _ in least_mends(BARE, pool, wish).good], least)

    def test_results_keep_what_they_are_passed(self):
        self.assertEqual(vars(Mends(1, 2)), {"good": 1, "bad": 2})


class Nearest(unittest.TestCase):

    def test_against_all_customs(self):
        source = random.Random(454)
        found = set()
        for wish in drawn_wishes(455, 16):
            good = [one for one in customs() if keeps(wish, one)]
            for _ in range(3):
                custom = custom_at(source.randrange(192))
                told = nearest_customs(custom, wish)
                if not good:
                    self.assertIsNone(told)
                    found.add(None)
                    continue
                many = min(len(differences(custom, one)) for one in good)
                self.assertEqual(told, (many, tuple(one for one in good if len(differences(custom, one)) == many)))
                found.add(many)
        self.assertLessEqual({None, 0, 1, 2}, found)

    def test_by_hand(self):
        self.assertEqual(nearest_customs(BARE, Wish()), (0, (BARE,)))
        many, near = nearest_customs(BARE, WISH)
        self.assertEqual((many, near[0]), (2, Custom("stay", "die", "all", "all", "never")))
        self.assertEqual([one.number for one in near], sorted(one.number for one in near))
        self.assertIsNone(nearest_customs(BARE, LandWish(EXAMPLE_LAND, [1], Counted(giving_up=True))))
        self.assertEqual(nearest_customs(custom=near[0], wish=WISH), (0, (near[0],)))


class Saving(unittest.TestCase):

    def saving_told_again(self, history, pool, cell):
        found = []
        for choice in pool.lawful_choices():
            led = History(history.land, pool.custom_by(history.custom, choice), history.deeds)
            if all(state.is_open(cell) for state in led.states()):
                found.append(choice)
        return tuple(found)

    def test_drawn_histories(self):
        source = random.Random(456)
        found = set()
        for k, pool in enumerate(drawn_pools(457, 150)):
            land, custom = (PAIR, ROW, VEE, RING)[k % 4], custom_at(source.randrange(192))
            history = History(land, custom, some_deeds(source, land, custom, source.randrange(5)))
            for cell in range(land.cells):
                expected = self.saving_told_again(history, pool, cell)
                self.assertEqual(saving_choices(history, pool, cell), expected)
                found.add(0 < len(expected) < len(list(pool.lawful_choices())))
        self.assertEqual(found, {True, False})

    def test_the_example(self):
        history = History(EXAMPLE_LAND, BARE, [("goes", [1], 1, [])])
        self.assertEqual(saving_choices(history, POOL, 1), ((0,), (0, 1), (0, 2), (0, 1, 2)))
        self.assertEqual(saving_choices(history, POOL, 0), tuple(POOL.lawful_choices()))
        self.assertEqual(saving_choices(history=History(EXAMPLE_LAND, BARE), pool=POOL, cell=1), tuple(POOL.lawful_choices()))

    def test_a_cell_that_is_shut_off_for_a_while(self):
        history = History(EXAMPLE_LAND, BARE, [("goes", [1], 1, []), ("goes", [1], 0, [])])
        self.assertEqual(saving_choices(history, POOL, 1), ((0,), (0, 1), (0, 2), (0, 1, 2)))

    def test_good_choices_save_each_cell_in_counted_histories(self):
        source = random.Random(458)
        many = 0
        for custom, pool, wish in drawn_cases(459, 240):
            if not isinstance(wish, LandWish):
                continue
            for choice in good_choices(custom, pool, wish):
                mended = pool.custom_by(custom, choice)
                led = History(wish.land, mended, some_deeds(source, wish.land, mended, 4))
                if led.is_counted(wish.counted):
                    many += 1
                    history = History(wish.land, custom, led.deeds)
                    for cell in wish.cells:
                        self.assertIn(choice, saving_choices(history, pool, cell))
        self.assertGreater(many, 30)

    def test_what_is_wrong(self):
        history = History(ROW, BARE)
        for thing in (-1, 3, *NO_NUMBERS):
            self.assertEqual(caught(lambda: saving_choices(history, POOL, thing)), ("BadCell", thing))

    def test_the_deeds_that_can_be_done_are_the_same(self):
        source = random.Random(460)
        for number in range(0, 192, 16):
            deeds = some_deeds(source, RING, custom_at(number), 8)
            for other in customs():
                self.assertEqual(len(History(RING, other, deeds)), 8)
        self.assertEqual(len(CLAUSES), 5)

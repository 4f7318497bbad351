"""[10.10]: the bench."""

import random
import unittest

from helpers import NO_NUMBERS, PAIR, RING, ROW, VEE, caught, some_deed
from landways.bench import Bench
from landways.changes import Change
from landways.customs import Custom, custom_at
from landways.deeds import deed_fault
from landways.histories import MOST_DEEDS, History
from test_changes import ALL_CHANGES

BARE = Custom("stay", "die", "none", "none", "never")
DEEDS = [("goes", [2], 1, []), ("grant", [2], [0, 1])]
ALL_SOLD = Change("sold", "all")


def stand(bench):
    """What is seen of a bench."""
    return (bench.history, len(bench))


class Building(unittest.TestCase):

    def test_as_a_history(self):
        bench = Bench(ROW, BARE, DEEDS)
        self.assertEqual(stand(bench), (History(ROW, BARE, DEEDS), 0))
        self.assertEqual(stand(Bench(ROW, BARE)), (History(ROW, BARE), 0))
        self.assertEqual(stand(Bench(land=ROW, custom=BARE, deeds=DEEDS)), stand(bench))
        self.assertIn("history", vars(bench))

    def test_what_is_wrong(self):
        for parts, fault in [((None, None, None), (0, "land")), ((ROW, None, None), (0, "custom")), ((ROW, BARE, None), (0, "deeds")),
                             ((ROW, BARE, "goes"), (0, "deeds")), ((ROW, BARE, [None] * (MOST_DEEDS + 1)), (MOST_DEEDS, "many")),
                             ((ROW, BARE, DEEDS + [None]), (2, "deed")), ((ROW, BARE, DEEDS[1:]), (0, "same")),
                             ((ROW, BARE, [("goes", [2], True, [])]), (0, "hand"))]:
            self.assertEqual(caught(lambda: Bench(*parts)), ("BadHistory", *fault))


class Acts(unittest.TestCase):

    def test_make(self):
        bench = Bench(ROW, BARE, DEEDS[:1])
        self.assertIsNone(bench.make(DEEDS[1], ["goes", [1], 5, [[2, 1]]]))
        self.assertEqual(stand(bench), (History(ROW, BARE, [*DEEDS, ("goes", [1], 5, [(2, 1)])]), 1))
        self.assertIsNone(bench.make())
        self.assertEqual(len(bench), 2)
        self.assertIsNone(bench.undo())
        self.assertIsNone(bench.undo())
        self.assertEqual(stand(bench), (History(ROW, BARE, DEEDS[:1]), 0))

    def test_change(self):
        bench = Bench(ROW, BARE, DEEDS)
        self.assertIsNone(bench.change(ALL_SOLD, Change("kept", "all")))
        self.assertEqual(stand(bench), (History(ROW, Custom("stay", "die", "all", "all", "never"), DEEDS), 1))
        self.assertEqual(bench.history.first_shut(2), None)
        bench.change()
        bench.change(Change("sold", "need"), Change("sold", "beside"))
        self.assertEqual((bench.history.custom.sold, len(bench)), ("beside", 3))
        bench.undo()
        self.assertEqual((bench.history.custom.sold, len(bench)), ("all", 2))

    def test_deeds_stay_when_the_custom_is_changed(self):
        bench = Bench(ROW, BARE)
        bench.make(DEEDS[0])
        bench.change(ALL_SOLD)
        bench.make(DEEDS[1])
        self.assertEqual(bench.history, History(ROW, BARE.changed("sold", "all"), DEEDS))
        bench.back_to(1)
        self.assertEqual(stand(bench), (History(ROW, BARE, DEEDS[:1]), 1))

    def test_make_what_cannot_be(self):
        bench = Bench(ROW, BARE, DEEDS)
        bench.change(ALL_SOLD)
        ahead = stand(bench)
        for deeds, fault in [([None], (2, "deed")), ([("goes", [1], 2, []), ("goes", [1], 2, [])], (3, "still")),
                             ([("goes", [3], 2, [])], (2, "cells")), ([("goes", [0], 2, []), ("grant", [0, 1], [2])], (3, "one")),
                             ([("goes", [1], 2, None)], (2, "told"))]:
            self.assertEqual(caught(lambda: bench.make(*deeds)), ("BadHistory", *fault))
            self.assertEqual(stand(bench), ahead)
        full = Bench(ROW, BARE, [("goes", [2], 1, [])] + [("grant", [2], [1])] * (MOST_DEEDS - 1))
        self.assertEqual(caught(lambda: full.make(DEEDS[1])), ("BadHistory", MOST_DEEDS, "many"))
        self.assertEqual((len(full), len(full.history)), (0, MOST_DEEDS))

    def test_undo(self):
        bench = Bench(ROW, BARE, DEEDS)
        for _ in range(2):
            self.assertEqual(caught(bench.undo), ("NothingDone",))
            self.assertEqual(stand(bench), (History(ROW, BARE, DEEDS), 0))
        bench.make()
        bench.undo()
        self.assertEqual(caught(bench.undo), ("NothingDone",))

    def test_back_to(self):
        bench = Bench(ROW, BARE, DEEDS)
        stands = [stand(bench)]
        for act in (lambda: bench.change(ALL_SOLD), lambda: bench.make(("goes", [1], 2, [])), lambda: bench.make(), bench.change,
                    lambda: bench.change(Change("kept", "all"), ALL_SOLD)):
            act()
            stands.append(stand(bench))
        self.assertIsNone(bench.back_to(5))
        self.assertEqual(stand(bench), stands[5])
        for thing in (-1, 6, 10 ** 40, *NO_NUMBERS):
            self.assertEqual(caught(lambda: bench.back_to(thing)), ("BadMark", thing))
            self.assertEqual(stand(bench), stands[5])
        for many in (4, 2, 2, 0):
            self.assertIsNone(bench.back_to(many=many))
            self.assertEqual(stand(bench), stands[many])
        self.assertEqual(caught(lambda: bench.back_to(1)), ("BadMark", 1))

    def test_drawn_acts(self):
        source = random.Random(491)
        for number in range(0, 192, 4):
            land = (PAIR, ROW, VEE, RING)[number % 16 // 4]
            bench = Bench(land, custom_at(number), [("goes", [0], 1, [])])
            stands = [(land, custom_at(number), [("goes", [0], 1, [])])]
            for _ in range(25):
                self.act(source, bench, stands)
                self.assertEqual(len(bench), len(stands) - 1)
                self.assertEqual(bench.history, History(*stands[-1]))

    def act(self, source, bench, stands):
        """One drawn act; the stands are what the bench must be made anew from, act by act."""
        land, custom, deeds = stands[-1]
        word = source.choice(["make", "make", "make", "change", "change", "undo", "back", "tried"])
        if word in ("make", "tried"):
            added = []
            for _ in range(source.randrange(3)):
                deed = some_deed(source, History(land, custom, deeds + added).state)
                if deed_fault(History(land, custom, deeds + added).state, deed) is None:
                    added.append(deed)
            if word == "make":
                bench.make(*added)
                stands.append((land, custom, deeds + added))
            else:
                expected = History(land, custom, deeds + added)
                self.assertEqual(bench.tried(added, lambda one: one.history), expected)
        elif word == "change":
            changes = [source.choice(ALL_CHANGES) for _ in range(source.randrange(3))]
            bench.change(*changes)
            for change in changes:
                custom = custom.changed(change.clause, change.word)
            stands.append((land, custom, deeds))
        elif word == "undo" and len(stands) > 1:
            bench.undo()
            stands.pop()
        elif word == "back" and source.random() < 0.4:
            many = source.randrange(len(stands))
            bench.back_to(many)
            del stands[many + 1:]


class Tried(unittest.TestCase):

    def setUp(self):
        self.bench = Bench(ROW, BARE, DEEDS[:1])
        self.bench.change(ALL_SOLD)
        self.bench.make(DEEDS[1])
        self.ahead = stand(self.bench)
        self.deeds = [("goes", [1], 4, []), ["goes", [0], 4, []]]

    def tearDown(self):
        self.assertEqual(stand(self.bench), self.ahead)
        self.bench.undo()
        self.assertEqual(stand(self.bench), (History(ROW, BARE.changed("sold", "all"), DEEDS[:1]), 1))

    def test_what_the_question_sees(self):
        seen = []

        def question(bench):
            seen.append(bench)
            return (bench.history, len(bench))

        told = self.bench.tried(self.deeds, question)
        self.assertEqual(told, (self.ahead[0].then(*self.deeds), 3))
        self.assertEqual(len(seen), 1)
        self.assertIs(seen[0], self.bench)
        self.assertEqual(self.bench.tried(deeds=(), question=question), (self.ahead[0], 3))

    def test_whatever_is_returned(self):
        for thing in (None, True, 7, [1], self.bench):
            self.assertIs(self.bench.tried(self.deeds, lambda bench: thing), thing)

    def test_a_question_that_changes_the_bench(self):
        for change in (lambda bench: bench.make(("goes", [2], 9, [])), lambda bench: bench.undo(), lambda bench: bench.back_to(0),
                       lambda bench: bench.change(Change("kept", "need")), lambda bench: bench.change() or bench.undo(),
                       lambda bench: [bench.undo() for _ in range(len(bench))]):
            self.bench.tried(self.deeds, change)
            self.assertEqual(stand(self.bench), self.ahead)

        def all_anew(bench):
            bench.back_to(0)
            for _ in range(6):
                bench.make()
            return len(bench)

        self.assertEqual(self.bench.tried(self.deeds, all_anew), 6)

    def test_a_question_that_raises(self):
        class Own(Exception):
            pass

        def question(bench):
            bench.back_to(1)
            raise Own("seen")

        with self.assertRaises(Own) as held:
            self.bench.tried(self.deeds, question)
        self.assertEqual(held.exception.args, ("seen",))
        self.assertEqual(stand(self.bench), self.ahead)
        self.assertEqual(caught(lambda: self.bench.tried(self.deeds, lambda bench: bench.back_to(9))), ("BadMark", 9))
        with self.assertRaises(KeyboardInterrupt):
            self.bench.tried(self.deeds, self.interrupted)

    def interrupted(self, bench):
        bench.undo()
        raise KeyboardInterrupt()

    def test_deeds_that_cannot_be_done(self):
        asked = []
        for deeds, fault in [([None], (2, "deed")), ([self.deeds[0], self.deeds[0]], (3, "still")), ([("grant", [2], [2])], (2, "same"))]:
            self.assertEqual(caught(lambda: self.bench.tried(deeds, asked.append)), ("BadHistory", *fault))
            self.assertEqual(stand(self.bench), self.ahead)
        self.assertEqual(asked, [])

    def test_one_within_another(self):
        def outer(bench):
            inner = bench.tried([("goes", [2], 9, [])], lambda one: (len(one), len(one.history)))
            return inner, len(bench), len(bench.history)

        self.assertEqual(self.bench.tried(self.deeds, outer), ((4, 5), 3, 4))

    def test_nothing_that_is_passed_in_is_changed(self):
        deeds = [["goes", [1], 4, [[2, 1]]]]
        self.bench.tried(deeds, lambda bench: bench.make())
        self.assertEqual(deeds, [["goes", [1], 4, [[2, 1]]]])

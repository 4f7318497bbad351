"""[10.1], [10.2]: changes of customs, and pools of them."""

import random
import unittest
from itertools import combinations

from helpers import NO_SEQUENCES, caught, subsets, tuples_only
from landways.changes import Change, Pool, change_text, every_change, is_lesser
from landways.customs import CLAUSES, Custom, custom_at, customs, differences, words

BARE = Custom("stay", "die", "none", "none", "never")
ALL_CHANGES = [Change(clause, word) for clause in CLAUSES for word in words(clause)]
NO_WORDS = (None, True, 0, "", "Stay", "needed", ["stay"], ("stay",), {}, object())


def drawn_pools(seed, many):
    """Pools of drawn changes; some changes stand in them twice."""
    source = random.Random(seed)
    for _ in range(many):
        yield Pool([source.choice(ALL_CHANGES) for _ in range(source.randint(1, 7))])


class Changes(unittest.TestCase):

    def test_attributes(self):
        for clause in CLAUSES:
            for word in words(clause):
                change = Change(clause, word)
                self.assertEqual((change.clause, change.word), (clause, word))
                self.assertEqual(Change(clause=clause, word=word), change)
                self.assertEqual(list(vars(change)), ["clause", "word"])

    def test_made(self):
        for custom in customs():
            for change in ALL_CHANGES:
                made = change.made(custom)
                self.assertEqual(made, custom.changed(change.clause, change.word))
                self.assertLessEqual(set(differences(custom, made)), {change.clause})

    def test_equal_changes(self):
        for k, one in enumerate(ALL_CHANGES):
            for j, other in enumerate(ALL_CHANGES):
                self.assertIs(one == Change(other.clause, other.word), k == j)
            for other in (None, change_text(one), (one.clause, one.word), BARE):
                self.assertNotEqual(one, other)
        self.assertNotEqual(Change("sold", "all"), Change("kept", "all"))

    def test_texts(self):
        self.assertEqual(change_text(Change("untold", "needed stay")), "untold needed stay")
        for change in ALL_CHANGES:
            self.assertEqual(change_text(change), f"{change.clause} {change.word}")
            self.assertEqual(Change.read(change_text(change)), change)
            self.assertEqual(Change.read(text=change_text(change)), change)

    def test_what_is_no_text_of_a_change(self):
        for thing in (None, True, 0, "", "untold", "untold ", "untold needed", "untold  stay", " untold stay", "untold stay ",
                      "Untold stay", "sold free", "untold stay\n", "untold: stay", "untold stay; joined die",
                      ["untold", "stay"], ("untold", "stay"), b"untold stay", {}, Change("sold", "all")):
            self.assertEqual(caught(lambda: Change.read(thing)), ("BadText", 0, "change"))

    def test_what_is_wrong(self):
        for thing in NO_WORDS:
            self.assertEqual(caught(lambda: Change(thing, "stay")), ("BadClause", "clause"))
            self.assertEqual(caught(lambda: Change(thing, thing)), ("BadClause", "clause"))
            self.assertEqual(caught(lambda: Change("untold", thing)), ("BadClause", "word"))
        for clause in CLAUSES:
            for word in {word for other in CLAUSES for word in words(other)} - set(words(clause)):
                self.assertEqual(caught(lambda: Change(clause, word)), ("BadClause", "word"))

    def test_every_change(self):
        for custom in customs():
            told = list(every_change(custom))
            self.assertEqual(told, [change for change in ALL_CHANGES if custom.word(change.clause) != change.word])
            self.assertEqual(len(told), 10)
            self.assertEqual(len(Pool(told)), 10)


class Pools(unittest.TestCase):

    def test_len_iteration_and_attributes(self):
        for pool in drawn_pools(431, 30):
            self.assertEqual((len(pool), tuple(pool)), (len(pool.changes), pool.changes))
            self.assertTrue(tuples_only(pool.changes))
            self.assertEqual(Pool(changes=list(pool)).changes, pool.changes)
        passed = [Change("sold", "all"), Change("sold", "all")]
        pool = Pool(passed)
        passed.append(None)
        self.assertEqual(len(pool), 2)

    def test_what_is_no_pool(self):
        change = Change("sold", "all")
        for thing in (*NO_SEQUENCES, [], (), [change] * 11, [None] * 11, {1: change}.values(), change):
            self.assertEqual(caught(lambda: Pool(thing)), ("BadPool", 0, "pool"))
        for thing in (None, True, 0, "sold all", ("sold", "all"), BARE, Change):
            self.assertEqual(caught(lambda: Pool([thing, thing])), ("BadPool", 0, "change"))
            self.assertEqual(caught(lambda: Pool([change, change, thing])), ("BadPool", 2, "change"))
        self.assertEqual((len(Pool([change])), len(Pool((change,) * 10))), (1, 10))

    def test_lawful_choices(self):
        for pool in [*drawn_pools(432, 60), Pool([Change("sold", "all")] * 10), Pool(list(every_change(BARE)))]:
            clauses = [change.clause for change in pool]
            expected = [choice for choice in subsets(range(len(pool)))
                        if len({clauses[index] for index in choice}) == len(choice)]
            self.assertEqual(list(pool.lawful_choices()), expected)
            self.assertTrue(tuples_only(tuple(expected)))

    def test_lawful_choices_by_hand(self):
        pool = Pool([Change("sold", "all"), Change("kept", "all"), Change("sold", "all"), Change("sold", "none")])
        self.assertEqual(list(pool.lawful_choices()), [(), (0,), (1,), (2,), (3,), (0, 1), (1, 2), (1, 3)])
        self.assertEqual(list(Pool([Change("ends", "free")]).lawful_choices()), [(), (0,)])
        self.assertEqual(len(list(Pool(list(every_change(BARE))).lawful_choices())), 3 * 2 * 4 * 4 * 2)

    def test_custom_by(self):
        source = random.Random(433)
        for pool in drawn_pools(434, 60):
            custom = custom_at(source.randrange(192))
            for choice in pool.lawful_choices():
                row = dict(zip(CLAUSES, custom.row))
                row.update({pool.changes[index].clause: pool.changes[index].word for index in choice})
                self.assertEqual(pool.custom_by(custom, choice), Custom(**row))
                self.assertEqual(pool.custom_by(custom=custom, choice=list(choice)), Custom(**row))
            self.assertEqual(pool.custom_by(custom, ()), custom)

    def test_what_is_no_choice(self):
        pool = Pool([Change("sold", "all"), Change("kept", "all"), Change("sold", "none"), Change("ends", "free")])
        for thing in (*NO_SEQUENCES, [4], [-1], [True], [0, True], [False], [1, 0], [0, 0], [0, 2, 1], [0, 0, 2], ["0"], [None],
                      [(0,)], [0.0], [0, 2, 4], [2, 0]):
            self.assertEqual(caught(lambda: pool.custom_by(BARE, thing)), ("BadChoice", "choice"))
        for thing in ([0, 2], (0, 2), (0, 1, 2), [0, 2, 3]):
            self.assertEqual(caught(lambda: pool.custom_by(BARE, thing)), ("BadChoice", "clause"))

    def test_the_lesser_of_two(self):
        lots = [choice for many in range(5) for choice in combinations(range(4), many)]
        for one in lots:
            for other in lots:
                self.assertIs(is_lesser(one, other), set(one) < set(other))
                self.assertIs(is_lesser(one=list(one), other=other), set(one) < set(other))

"""[8.5]: whether two customs are alike on a land, and the judge of it."""

import random
import unittest

from helpers import FORK, HOUSE, PAIR, RING, ROW, VEE, caught, some_counted
from landways.comparing import Alike, Unlike, alike_fault, are_alike, compare_customs
from landways.counted import Counted, counteds
from landways.customs import Custom, custom_at, customs
from landways.kinder import Kinder
from landways.lands import Land
from landways.landforms import all_lands
from landways.twinruns import TwinRun
from landways.twintables import TwinTable, twin_table
from landways.twinviews import MEASURES, TwinView, twin_start
from landways.views import start_view
from test_twinviews import NO_MEASURES
from twinwalk import twin_states

BARE = Custom("stay", "die", "none", "none", "never")
KIND = Custom("stay", "die", "all", "all", "never")
SLEEPY = KIND.changed("joined", "sleep")
NOTHING = Counted(False, False, False)
EVERYTHING = Counted(True, True, True)
FULL = Land(3, [(0, 1), (1, 2), (0, 2)], [2])


def neighbour(source, custom):
    """A custom that differs in few clauses."""
    for _ in range(source.randint(0, 2)):
        clause = source.choice(["untold", "joined", "sold", "kept", "ends", "ends", "untold"])
        other = custom_at(source.randrange(192))
        custom = custom.changed(clause, other.word(clause))
    return custom


def drawn_pairs(seed, many):
    """Lands, pairs of customs that are not far from one another, and sorts of counted deeds."""
    source = random.Random(seed)
    for _ in range(many):
        one = custom_at(source.randrange(192))
        yield source.choice((PAIR, ROW, VEE, FULL)), one, neighbour(source, one), some_counted(source)


def check_unlike(test, told, land, one, other, counted, measure):
    """That an Unlike is right: played again, with the first deed behind which a twin view differs as its last one."""
    test.assertIsInstance(told, Unlike)
    run = told.run
    test.assertEqual(run, TwinRun(land, one, other, run.deeds))
    test.assertIs(run.is_counted(counted), True)
    test.assertGreater(len(run), 0)
    for many in range(len(run)):
        test.assertEqual(run.until(many).differing(measure), ())
    test.assertTrue(run.twin(told.cell).differs(measure))


class Comparing(unittest.TestCase):

    def check(self, land, one, other, counted):
        found = []
        for measure in MEASURES:
            told = compare_customs(land, one, other, counted, measure=measure)
            found.append(isinstance(told, Alike))
            self.assertIs(are_alike(land, one, other, counted, measure=measure), found[-1])
            self.assertIsNone(alike_fault(land, one, other, counted, measure, told))
            if found[-1]:
                self.assertEqual([(table.land, table.one, table.other, table.cell, table.counted) for table in told.tables],
                                 [(land, one, other, cell, counted) for cell in range(land.cells)])
                for table in told.tables:
                    self.assertEqual(table.rows[0][0], twin_start(land, table.cell))
                    self.assertFalse([row for row in table.rows if row[0].differs(measure)])
                self.assertIsInstance(told.tables, tuple)
            else:
                check_unlike(self, told, land, one, other, counted, measure)
        # Customs that are alike by a measure are alike by those behind it.
        self.assertEqual(found, sorted(found))
        return found

    def test_drawn_pairs(self):
        found = [tuple(self.check(*case)) for case in drawn_pairs(341, 220)]
        self.assertEqual(set(found), {(False, False, False), (False, False, True), (False, True, True), (True, True, True)})

    def test_against_all_counted_deeds(self):
        for k, (_, one, other, counted) in enumerate(drawn_pairs(342, 160)):
            land = PAIR if k % 10 else VEE
            self.compare(land, one, other, counted if land == PAIR else NOTHING)

    def compare(self, land, one, other, counted):
        states = twin_states(land, one, other, counted)
        unlike = [state for state in states if state[1] != state[2]]
        self.assertIs(are_alike(land, one, other, counted), not unlike)
        passed = [[{(a, b) for a, b in land.couples if table[a][b] in ("awake", "needed")} for table in state[1:]]
                  for state in states]
        self.assertIs(are_alike(land, one, other, counted, measure="passing"), all(a == b for a, b in passed))

    def test_the_same_custom_twice(self):
        for number in range(0, 192, 9):
            for counted in (NOTHING, Counted(), EVERYTHING):
                self.assertEqual(self.check(ROW, custom_at(number), custom_at(number), counted), [True, True, True])

    def test_some_by_hand(self):
        told = compare_customs(PAIR, BARE, KIND, NOTHING, measure="open")
        self.assertEqual((len(told.run), told.cell), (1, 0))
        self.assertEqual(told.run.differing("open"), (0,))
        self.assertEqual(self.check(ROW, KIND, SLEEPY, NOTHING), [False, True, True])
        self.assertEqual(self.check(ROW, BARE, BARE.changed("joined", "sleep"), NOTHING), [True, True, True])
        self.assertEqual(self.check(ROW, BARE, BARE.changed("joined", "sleep"), Counted()), [False, False, False])
        need = Custom("stay", "die", "need", "need", "never")
        self.assertEqual(self.check(VEE, need, need.changed("ends", "free"), NOTHING), [False, False, True])
        self.assertEqual(self.check(PAIR, need, KIND, NOTHING), [False, False, True])

    def test_turned_pairs(self):
        for land, one, other, counted in drawn_pairs(343, 60):
            for measure in MEASURES:
                self.assertIs(are_alike(land, one, other, counted, measure=measure),
                              are_alike(land, other, one, counted, measure=measure))

    def test_more_counted_deeds_tell_more_apart(self):
        for land, one, other, counted in drawn_pairs(344, 30):
            for further in counteds():
                if counted.is_within(further) and are_alike(land, one, other, further):
                    self.assertIs(are_alike(land, one, other, counted), True)

    def test_measure_and_counted_left_out_none_by_place_and_by_name(self):
        for told in (compare_customs(ROW, KIND, SLEEPY), compare_customs(ROW, KIND, SLEEPY, None),
                     compare_customs(land=ROW, one=KIND, other=SLEEPY, counted=None, measure="standing")):
            check_unlike(self, told, ROW, KIND, SLEEPY, Counted(), "standing")
        told = compare_customs(ROW, KIND, SLEEPY, None, measure="passing")
        self.assertEqual([table.counted for table in told.tables], [Counted()] * 3)
        self.assertIs(are_alike(ROW, KIND, SLEEPY), False)
        self.assertIs(are_alike(ROW, KIND, SLEEPY, measure="open"), True)
        with self.assertRaises(TypeError):
            are_alike(ROW, KIND, SLEEPY, None, "open")

    def test_all_lands_of_two_and_three_cells(self):
        for land in [*all_lands(2), *all_lands(3)]:
            self.check(land, custom_at(29), custom_at(28), Counted(untold=False))

    def test_what_is_wrong(self):
        for land in (RING, FORK, HOUSE):
            for measure in ("standing", None, "shut"):
                for ask in (lambda: compare_customs(land, KIND, BARE, measure=measure),
                            lambda: are_alike(land, KIND, BARE, measure=measure),
                            lambda: alike_fault(land, KIND, BARE, None, measure, None)):
                    self.assertEqual(caught(ask), ("TooWide", "cells"))
        for thing in NO_MEASURES:
            for ask in (lambda: compare_customs(ROW, KIND, BARE, measure=thing),
                        lambda: are_alike(PAIR, KIND, KIND, measure=thing),
                        lambda: alike_fault(PAIR, KIND, BARE, None, thing, None)):
                self.assertEqual(caught(ask), ("BadMeasure", thing))

    def test_results_keep_what_they_are_passed(self):
        self.assertEqual(vars(Alike(1)), {"tables": 1})
        self.assertEqual(vars(Unlike(1, 2)), {"run": 1, "cell": 2})


def with_rows(table, rows, **other):
    """The table with other rows, or with another attribute."""
    parts = {**vars(table), "rows": tuple(rows), **other}
    return TwinTable(parts["land"], parts["one"], parts["other"], parts["cell"], parts["counted"], parts["rows"])


class JudgeOfAlike(unittest.TestCase):

    def setUp(self):
        self.asked = (ROW, KIND, SLEEPY, NOTHING, "passing")
        self.told = compare_customs(*self.asked[:4], measure="passing")
        self.tables = list(self.told.tables)

    def fault(self, *tables):
        return alike_fault(*self.asked, Alike(tuple(tables)))

    def spoilt(self, place, table):
        tables = list(self.tables)
        tables[place] = table
        return self.fault(*tables)

    def test_right_ones(self):
        self.assertIsNone(self.fault(*self.tables))
        self.assertIsNone(alike_fault(ROW, KIND, SLEEPY, None, "open", compare_customs(ROW, KIND, SLEEPY, measure="open")))
        # The rows may come in any order, with any distances and steps.
        plain = [with_rows(table, [(row[0], 0, None, None) for row in reversed(table.rows)]) for table in self.tables]
        self.assertIsNone(self.fault(*plain))

    def test_kind(self):
        for thing in (None, True, self.told.tables, Kinder(self.told.tables), "alike", KIND):
            self.assertEqual(alike_fault(*self.asked, thing), "kind")

    def test_tables(self):
        first, second, third = self.tables
        self.assertEqual(self.fault(), "tables")
        for thing in (None, self.tables, 3, ()):
            self.assertEqual(alike_fault(*self.asked, Alike(thing)), "tables")
        self.assertEqual(self.fault(first, second), "tables")
        self.assertEqual(self.fault(first, third, second), "tables")
        self.assertEqual(self.fault(first, second, third, third), "tables")
        self.assertEqual(self.spoilt(2, None), "tables")
        self.assertEqual(self.spoilt(2, self.told), "tables")
        for other in (dict(land=VEE), dict(one=SLEEPY), dict(other=KIND), dict(cell=0), dict(counted=Counted())):
            self.assertEqual(self.spoilt(2, with_rows(third, third.rows, **other)), "tables")
        self.assertEqual(self.spoilt(1, with_rows(second, second.rows, cell=True)), "tables")
        self.assertEqual(alike_fault(ROW, KIND, SLEEPY, None, "passing", self.told), "tables")
        self.assertEqual(alike_fault(VEE, KIND, SLEEPY, NOTHING, "passing", self.told), "tables")

    def test_twin_views_of_another_land_or_cell(self):
        for row in ((twin_start(VEE, 2), 1, 0, None), (twin_start(ROW, 1), 1, 0, None)):
            self.assertEqual(self.spoilt(2, with_rows(self.tables[2], [*self.tables[2].rows, row])), "tables")

    def test_start(self):
        self.assertEqual(self.spoilt(1, with_rows(self.tables[1], self.tables[1].rows[1:])), "start")
        self.assertEqual(self.spoilt(0, with_rows(self.tables[0], ())), "start")

    def test_differs(self):
        twin = [row[0] for row in twin_table(ROW, KIND, BARE, 2).rows if row[0].differs("passing")][0]
        row = (twin, 1, 0, None)
        self.assertEqual(self.spoilt(2, with_rows(self.tables[2], [*self.tables[2].rows, row])), "differs")
        asked = (ROW, KIND, BARE, NOTHING)
        tables = tuple(twin_table(ROW, KIND, BARE, cell, NOTHING) for cell in range(3))
        for measure in MEASURES:
            self.assertEqual(alike_fault(*asked, measure, Alike(tables)), "differs")

    def test_closed(self):
        for place in range(3):
            self.assertEqual(self.spoilt(place, with_rows(self.tables[place], self.tables[place].rows[:-1])), "closed")
            self.assertEqual(self.spoilt(place, with_rows(self.tables[place], self.tables[place].rows[:1])), "closed")

    def test_two_faults_at_once(self):
        twin = [row[0] for row in twin_table(ROW, KIND, BARE, 2).rows if row[0].differs("passing")][0]
        row = (twin, 1, 0, None)
        third = self.tables[2]
        self.assertEqual(self.spoilt(2, with_rows(third, [row], cell=1)), "tables")
        self.assertEqual(self.spoilt(2, with_rows(third, [*third.rows[1:], row])), "start")
        self.assertEqual(self.spoilt(2, with_rows(third, [*third.rows[:1], row])), "differs")
        # Table by table: the earlier one counts, whatever its word.
        short = with_rows(self.tables[0], self.tables[0].rows[:1])
        self.assertEqual(self.fault(short, self.tables[1], with_rows(third, third.rows[1:])), "closed")
        self.assertEqual(self.fault(short, self.tables[1], with_rows(third, third.rows, cell=0)), "tables")


class JudgeOfUnlike(unittest.TestCase):

    def setUp(self):
        self.asked = (ROW, BARE, KIND, Counted(untold=False), "open")
        self.told = compare_customs(*self.asked[:4], measure="open")

    def fault(self, run, cell):
        return alike_fault(*self.asked, Unlike(run, cell))

    def run_of(self, *deeds):
        return TwinRun(ROW, BARE, KIND, deeds)

    def test_right_ones(self):
        self.assertIsNone(self.fault(self.told.run, self.told.cell))
        self.assertIsNone(self.fault(self.run_of(("goes", [2], 1, [])), 2))
        self.assertIsNone(self.fault(self.run_of(("goes", [0], 1, [])), 1))
        self.assertIsNone(self.fault(self.run_of(("goes", [0, 1, 2], 1, []), ("goes", [0], 2, [])), 2))

    def test_run(self):
        deeds = self.told.run.deeds
        for run in (None, deeds, self.told.run.first, TwinRun(VEE, BARE, KIND, [("goes", [0], 1, [])]),
                    TwinRun(ROW, KIND, BARE, deeds), TwinRun(ROW, BARE, BARE, deeds), TwinRun(ROW, KIND, KIND, deeds),
                    self.told.run.turned()):
            self.assertEqual(self.fault(run, self.told.cell), "run")

    def test_counted(self):
        run = self.run_of(("goes", [2], 1, []), ("goes", [0], 2, []))
        self.assertEqual(self.fault(run, 1), "counted")
        self.assertEqual(alike_fault(ROW, BARE, KIND, None, "open", Unlike(run, 1)), "ahead")
        self.assertEqual(alike_fault(ROW, BARE, KIND, NOTHING, "open",
                                     Unlike(self.run_of(("goes", [2], 1, []), ("grant", [0], [2])), 2)), "counted")

    def test_ahead(self):
        self.assertEqual(self.fault(self.run_of(), 2), "ahead")
        self.assertEqual(self.fault(self.run_of(("goes", [2], 1, []), ("grant", [0], [2])), 2), "ahead")
        self.assertEqual(self.fault(self.run_of(("goes", [2], 1, []), ("goes", [2], 0, []), ("goes", [2], 1, [])), 2), "ahead")
        # Another cell than the told one may be the one that differs too early.
        told = self.run_of(("goes", [2], 1, []), ("goes", [1], 2, [(0, 1), (2, 1)]))
        self.assertEqual(self.fault(told, 1), "ahead")

    def test_last(self):
        run = self.run_of(("goes", [2], 1, []))
        for cell in (0, 1, -1, 3, None, True, "2"):
            self.assertEqual(self.fault(run, cell), "last")
        still = self.run_of(("goes", [0, 1, 2], 1, []))
        self.assertEqual(self.fault(still, 2), "last")
        one = TwinRun(PAIR, KIND, BARE, [("goes", [0], 1, [])])
        self.assertIsNone(alike_fault(PAIR, KIND, BARE, None, "standing", Unlike(one, 1)))
        self.assertEqual(alike_fault(PAIR, KIND, BARE, None, "standing", Unlike(one, True)), "last")

    def test_two_faults_at_once(self):
        untold = [("goes", [2], 1, []), ("goes", [0], 2, [])]
        self.assertEqual(self.fault(TwinRun(ROW, KIND, BARE, untold), 0), "run")
        self.assertEqual(self.fault(self.run_of(*untold), 0), "counted")
        self.assertEqual(self.fault(self.run_of(), 9), "ahead")
        self.assertEqual(self.fault(self.run_of(("goes", [2], 1, []), ("grant", [0], [2])), 0), "ahead")

    def test_results_of_all_measures(self):
        for land, one, other, counted in drawn_pairs(345, 60):
            for measure in MEASURES:
                told = compare_customs(land, one, other, counted, measure=measure)
                for asked in MEASURES:
                    if isinstance(told, Unlike):
                        first = told.run.differs_at(asked)
                        expected = None if told.cell in told.run.differing(asked) else "last"
                        expected = "ahead" if first is not None and first < len(told.run) else expected
                        self.assertEqual(alike_fault(land, one, other, counted, asked, told), expected)

    def test_views_alone_are_no_twin_views(self):
        rows = ((start_view(PAIR, 0), 0, None, None),)
        tables = (TwinTable(PAIR, KIND, KIND, 0, Counted(), rows), twin_table(PAIR, KIND, KIND, 1))
        self.assertEqual(alike_fault(PAIR, KIND, KIND, None, "open", Alike(tables)), "tables")
        twin = TwinView(start_view(PAIR, 0), start_view(PAIR, 0))
        self.assertIn(twin, twin_table(PAIR, KIND, KIND, 0))


class Classes(unittest.TestCase):

    def test_alike_is_a_sort_of_equality(self):
        for number in range(0, 192, 17):
            one = custom_at(number)
            near = [other for other in list(customs())[::7] if are_alike(ROW, one, other, NOTHING, measure="passing")]
            for other in near:
                for third in near:
                    self.assertIs(are_alike(ROW, other, third, NOTHING, measure="passing"), True)

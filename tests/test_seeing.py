"""[4.5] to [4.7]: what a step does to a view, settled views, and the step that a deed is."""

import inspect
import random
import unittest

import oracle
from helpers import (CHAIN, FORK, LANDS, NO_NUMBERS, PAIR, RING, ROW, caught, look, some_deed, some_states, subsets,
                     tuples_only)
from landways.customs import Custom, custom_at, customs
from landways.deeds import deed_fault
from landways.lands import Land
from landways.seeing import is_settled_view, see_step, settled_view, step_changes, step_of
from landways.states import State, start_state
from landways.steps import Come, Give, Go, Grant, Leave, step_fault
from landways.views import View, all_views, view_of
from landways.viewtext import view_text

LINE = Land(4, [(0, 1), (1, 2), (2, 3)], [0])
BARE = dict(untold="stay", joined="die", sold="none", kept="none", ends="never")


def custom(**given):
    return Custom(**{**BARE, **given})


def behind(one, land, text, step):
    """The text of the view behind the step."""
    return view_text(see_step(one, look(land, text), step))


def rows(one, land, text, step):
    return list(step_changes(one, look(land, text), step))


def told_again(one, view, step):
    """The own cells, and the rows of changes, as near to the words of [4.5] as can be."""
    land, cell = view.land, view.cell
    words = list(view.standings)
    own = set(view.own)
    new = {"leave": own - set(step.cells), "come": own | set(step.cells),
           "go": set(step.cells) | set(step.others)}.get(step.kind, own)
    found = []

    def change(stage, b, word):
        if words[b] != word:
            found.append((stage, b, words[b], word))
            words[b] = word

    def is_open(without=None):
        passed = new | {b for b in range(land.cells) if words[b] in ("awake", "needed")}
        return oracle.is_open(land, cell, passed - {without})

    for b in range(land.cells):
        dies = words[b] == "awake" or (words[b] == "needed" and one.untold == "die")
        if step.kind == "leave" and b in step.others and one.untold != "stay" and dies:
            change("untold", b, "none")
    for b in sorted(new - own):
        if words[b] in ("awake", "needed"):
            change("joined", b, "asleep" if one.joined == "sleep" else "none")
    lost = sorted(own - new)
    for b in lost:
        if words[b] == "asleep":
            change("woken", b, "awake")
    clause = one.sold if step.kind == "go" else one.kept
    free = [b for b in lost if words[b] == "none"]
    if clause == "need":
        passed = new | {b for b in range(land.cells) if words[b] in ("awake", "needed")}
        lots = [] if is_open() else oracle.least_lots(land, cell, passed, free)
        for b in lots[0] if lots else ():
            change("arisen", b, "needed")
    else:
        for b in free:
            if clause == "all" or (clause == "beside" and land.is_neighbour(cell, b)):
                change("arisen", b, "awake")
    for b in step.cells:
        if step.kind == "grant":
            change("granted", b, "awake")
        if step.kind == "give":
            change("given", b, "none")
    for b in range(land.cells):
        if one.ends == "free" and words[b] == "needed" and is_open(b):
            change("ended", b, "none")
    return View(land, cell, sorted(new), words), found


def some_steps(source, view, many):
    """Steps that can be done from the view."""
    mates = [b for b in view.own if b != view.cell]
    steps = []
    while len(steps) < many:
        some = source.sample(mates, source.randint(0, len(mates)))
        out = source.sample(view.outside, source.randint(0, len(view.outside)))
        steps.append(Go([view.cell, *some], out))
        if some or out:
            steps.append(Leave(some, out))
        if out:
            steps += [Come(out), Grant(out), Give(out)]
    return steps


class Stages(unittest.TestCase):

    def test_untold(self):
        for word, text in [("stay", "3: ana"), ("die", "3: ..a"), ("needed stay", "3: .na")]:
            self.assertEqual(behind(custom(untold=word), LINE, "3: ana", Leave([], [0, 1])), text)
        self.assertEqual(behind(custom(untold="die"), LINE, "3: a.n", Leave([], [1])), "3: a.n")
        self.assertEqual(rows(custom(untold="die"), LINE, "3: nsa", Leave([1], [0, 2])),
                         [("untold", 0, "needed", "none"), ("untold", 2, "awake", "none"),
                          ("woken", 1, "asleep", "awake")])

    def test_held_cells_are_not_untold(self):
        for word in ("stay", "die", "needed stay"):
            self.assertEqual(behind(custom(untold=word), LINE, "3: ana", Go([3], [0])), "3: ona")
            self.assertEqual(behind(custom(untold=word), LINE, "3: ana", Come([0])), "3: ona")

    def test_joined(self):
        for word, text in [("die", "3: ooo"), ("sleep", "3: sso")]:
            self.assertEqual(behind(custom(joined=word), LINE, "3: an.", Come([0, 1, 2])), text)
            self.assertEqual(behind(custom(joined=word), LINE, "3: an.", Go([3], [0, 1, 2])), text)
        self.assertEqual(rows(custom(joined="sleep"), LINE, "3: an.", Come([1, 2])),
                         [("joined", 1, "needed", "asleep")])
        self.assertEqual(rows(custom(), LINE, "3: an.", Come([0, 1])),
                         [("joined", 0, "awake", "none"), ("joined", 1, "needed", "none")])

    def test_woken(self):
        for word in ("none", "all", "beside", "need"):
            self.assertEqual(behind(custom(kept=word), LINE, "3: ssa", Leave([0, 1])), "3: aaa")
            self.assertEqual(behind(custom(sold=word), LINE, "3: ssa", Go([3, 1])), "3: asa")
        self.assertEqual(behind(custom(), LINE, "3: sos", Leave([0, 1])), "3: a.s")
        self.assertEqual(rows(custom(), LINE, "3: sos", Leave([0, 1])), [("woken", 0, "asleep", "awake")])

    def test_own_cells_that_sleep_on(self):
        self.assertEqual(behind(custom(), LINE, "3: so.", Come([2])), "3: soo")
        self.assertEqual(behind(custom(untold="die"), LINE, "3: so.", Leave([1])), "3: s..")

    def test_arisen(self):
        for word, text in [("none", "3: ..."), ("all", "3: aaa"), ("beside", "3: ..a"), ("need", "3: nnn")]:
            self.assertEqual(behind(custom(kept=word), LINE, "3: ooo", Leave([0, 1, 2])), text)
            self.assertEqual(behind(custom(sold=word), LINE, "3: ooo", Go([3])), text)
            self.assertEqual(behind(custom(sold=word), LINE, "3: ooo", Leave([0, 1, 2])), "3: ...")
            self.assertEqual(behind(custom(kept=word), LINE, "3: ooo", Go([3])), "3: ...")
        self.assertEqual(rows(custom(kept="all"), LINE, "3: oso", Leave([0, 1])),
                         [("woken", 1, "asleep", "awake"), ("arisen", 0, "none", "awake")])

    def test_only_over_cells_that_are_own_no_more(self):
        for word in ("all", "beside", "need"):
            self.assertEqual(behind(custom(kept=word), LINE, "3: .o.", Leave([1])),
                             "3: .a." if word == "all" else "3: ...")

    def test_needed_with_a_least_lot(self):
        need = custom(kept="need")
        self.assertEqual(behind(need, LINE, "3: ooo", Leave([0])), "3: noo")
        self.assertEqual(behind(need, LINE, "3: ooo", Leave([0, 2])), "3: non")
        self.assertEqual(behind(need, LINE, "3: aoo", Leave([1])), "3: ano")
        self.assertEqual(behind(need, LINE, "3: soo", Leave([0, 1])), "3: ano")
        self.assertEqual(rows(need, LINE, "3: ooo", Leave([0, 1])),
                         [("arisen", 0, "none", "needed"), ("arisen", 1, "none", "needed")])

    def test_the_first_of_several_least_lots(self):
        self.assertEqual(behind(custom(kept="need"), RING, "1: ooo", Leave([0, 2, 3])), "1: n..")
        self.assertEqual(behind(custom(kept="need"), RING, "1: ooo", Leave([2, 3])), "1: o..")
        self.assertEqual(behind(custom(kept="need"), RING, "1: .oo", Leave([2, 3])), "1: .n.")

    def test_needed_without_a_least_lot(self):
        need = custom(kept="need", sold="need")
        self.assertEqual(behind(need, LINE, "3: .oo", Leave([1, 2])), "3: ...")
        self.assertEqual(behind(need, LINE, "3: .oo", Leave([2])), "3: .o.")
        self.assertEqual(behind(need, LINE, "3: .oo", Go([3])), "3: ...")

    def test_an_open_cell_needs_nothing(self):
        need = custom(kept="need", sold="need")
        self.assertEqual(behind(need, LINE, "3: soo", Leave([0])), "3: aoo")
        self.assertEqual(behind(need, LINE, "0: ooo", Leave([1, 2, 3])), "0: ...")
        self.assertEqual(behind(need, LINE, "1: ooo", Leave([2, 3])), "1: o..")
        self.assertEqual(behind(need, LINE, "2: ooo", Go([2], [])), "2: nn.")

    def test_held_cells_count_for_the_need(self):
        need = custom(sold="need")
        self.assertEqual(behind(need, LINE, "3: oo.", Go([3], [2])), "3: nno")
        self.assertEqual(behind(need, LINE, "3: oo.", Go([3])), "3: ...")
        self.assertEqual(behind(need, RING, "1: oo.", Go([1, 2], [])), "1: .o.")

    def test_granted_and_given(self):
        for one in (custom(), custom(joined="sleep", untold="die")):
            self.assertEqual(behind(one, LINE, "3: an.", Grant([0, 1, 2])), "3: aaa")
            self.assertEqual(behind(one, LINE, "3: an.", Give([0, 1, 2])), "3: ...")
        self.assertEqual(rows(custom(), LINE, "3: an.", Grant([0, 1, 2])),
                         [("granted", 1, "needed", "awake"), ("granted", 2, "none", "awake")])
        self.assertEqual(rows(custom(), LINE, "3: an.", Give([0, 1, 2])),
                         [("given", 0, "awake", "none"), ("given", 1, "needed", "none")])

    def test_ended(self):
        free = custom(ends="free")
        self.assertEqual(behind(free, LINE, "3: nn.", Grant([2])), "3: nna")
        self.assertEqual(behind(free, LINE, "3: nnn", Grant([0])), "3: ann")
        self.assertEqual(behind(free, RING, "1: n..", Grant([2])), "1: .a.")
        self.assertEqual(behind(custom(), RING, "1: n..", Grant([2])), "1: na.")
        self.assertEqual(behind(free, RING, "1: n..", Come([2])), "1: .o.")
        self.assertEqual(rows(free, RING, "1: n..", Come([2])), [("ended", 0, "needed", "none")])

    def test_earlier_ends_count_for_the_later_ones(self):
        free = custom(ends="free")
        self.assertEqual(behind(free, RING, "1: nn.", Come([3])), "1: .no")
        self.assertEqual(rows(free, RING, "1: nn.", Come([3])), [("ended", 0, "needed", "none")])
        self.assertEqual(rows(free, RING, "1: nnn", Grant([0])),
                         [("granted", 0, "needed", "awake"), ("ended", 2, "needed", "none"),
                          ("ended", 3, "needed", "none")])

    def test_a_step_that_ends_what_it_does_not_touch(self):
        self.assertEqual(behind(custom(ends="free"), RING, "1: no.", Leave([], [3])), "1: .o.")
        self.assertEqual(behind(custom(), RING, "1: no.", Leave([], [3])), "1: no.")

    def test_the_example(self):
        one = Custom("needed stay", "sleep", "none", "need", "never")
        texts = ["2: oo"]
        for step in (Leave([0, 1]), Come([1]), Leave([1], [0]), Leave([], [1])):
            texts.append(behind(one, ROW, texts[-1], step))
        self.assertEqual(texts, ["2: oo", "2: nn", "2: ns", "2: na", "2: n."])
        self.assertIs(look(ROW, texts[-1]).is_open(), False)

    def test_all_own_cells_go(self):
        for one in customs():
            self.assertEqual(behind(one, LINE, "3: oso", Go([0, 1, 2, 3])), "3: oso")
        self.assertEqual(behind(custom(joined="sleep"), LINE, "3: .oa", Go([1, 3], [0, 2])), "3: oos")


class ToldAgain(unittest.TestCase):

    def test_each_view_of_small_lands(self):
        source = random.Random(43)
        for number in range(192):
            one = custom_at(number)
            for land in (PAIR, ROW):
                cell = source.randrange(land.cells)
                for view in list(all_views(land, cell))[number % 3::3]:
                    self.compare(one, view, some_steps(source, view, 3))

    def test_views_of_larger_lands(self):
        source = random.Random(44)
        for number in range(192):
            land = LANDS[2 + number % 4]
            cell = source.randrange(land.cells)
            for view in source.sample(list(all_views(land, cell)), 6):
                self.compare(custom_at(number), view, some_steps(source, view, 3))

    def compare(self, one, view, steps):
        for step in steps:
            self.assertIsNone(step_fault(view, step))
            expected, changes = told_again(one, view, step)
            self.assertEqual(see_step(one, view, step), expected)
            self.assertEqual(see_step(one, view, step).own, step.own_behind(view))
            self.assertEqual(list(step_changes(one, view, step)), changes)
            self.assertIs(is_settled_view(one, expected), True)


class Refused(unittest.TestCase):

    def test_steps_that_cannot_be_done(self):
        view = look(LINE, "3: oa.")
        for step, word in [(None, "step"), ("leave", "step"), (True, "step"), (Leave([3]), "cells"),
                           (Leave([1], [0]), "cells"), (Come([0]), "cells"), (Grant([0]), "cells"), (Give([3]), "cells"),
                           (Go([0]), "cells"), (Go([3, 1]), "cells"), (Go([3], [0]), "others"),
                           (Leave([0], [3]), "others"), (Come([4]), "cells")]:
            self.assertEqual(caught(lambda: see_step(custom(), view, step)), ("BadStep", word))
            self.assertEqual(caught(lambda: list(step_changes(custom(), view, step))), ("BadStep", word))

    def test_it_is_a_generator(self):
        self.assertTrue(inspect.isgeneratorfunction(step_changes))
        self.assertEqual(rows(custom(), LINE, "3: ooo", Leave([0])), [])

    def test_what_is_passed_in_stays(self):
        view, step = look(LINE, "3: oan"), Leave([0], [1])
        see_step(custom(untold="die", kept="need"), view, step)
        self.assertEqual((view, step), (look(LINE, "3: oan"), Leave([0], [1])))


class Settled(unittest.TestCase):

    def test_by_the_word_of_ends(self):
        for text, settled in [("1: nn.", "1: .n."), ("1: nnn", "1: .n."), ("1: na.", "1: .a."), ("1: no.", "1: .o."),
                              ("1: n..", "1: n.."), ("1: ..n", "1: ..n"), ("1: ann", "1: a.."), ("1: ooo", "1: ooo"),
                              ("1: sso", "1: sso"), ("1: aa.", "1: aa.")]:
            view = look(RING, text)
            self.assertEqual(view_text(settled_view(custom(ends="free"), view)), settled)
            self.assertIs(is_settled_view(custom(ends="free"), view), text == settled)
            self.assertEqual(settled_view(custom(), view), view)
            self.assertIs(is_settled_view(custom(), view), True)

    def test_a_needed_right_that_opens_nothing_stays(self):
        self.assertEqual(view_text(settled_view(custom(ends="free"), look(LINE, "3: nn."))), "3: nn.")
        self.assertEqual(view_text(settled_view(custom(ends="free"), look(LINE, "0: nnn"))), "0: ...")

    def test_twice_is_once(self):
        one = custom(ends="free")
        for land in (PAIR, ROW, RING, FORK):
            for cell in range(land.cells):
                for view in all_views(land, cell):
                    self.assertIs(is_settled_view(one, settled_view(one, view)), True)


class StepOfDeeds(unittest.TestCase):

    # Cells 0 and 2 in one hand, 1 and 3 in another, 4 alone.
    STATE = State(CHAIN, [5, 6, 5, 6, 7], [["none"] * 5, ["awake", "none", "none", "none", "needed"],
                                           ["none", "awake", "none", "needed", "none"], ["none"] * 5, ["none"] * 5])

    def steps(self, deed):
        return [step_of(self.STATE, cell, deed) for cell in range(5)]

    def test_cells_come(self):
        self.assertEqual(self.steps(("goes", [1], 5, [])), [Come([1]), Go([1], [0, 2]), Come([1]), Leave([1]),
                                                            Leave([], [1])])
        self.assertEqual(self.steps(("goes", [0, 1, 4], 5, []))[0], Come([1, 4]))
        self.assertEqual(self.steps(("goes", [0, 1, 2, 4], 5, []))[2], Come([1, 4]))

    def test_the_cell_goes(self):
        self.assertEqual(self.steps(("goes", [0], 7, []))[0], Go([0], [4]))
        self.assertEqual(self.steps(("goes", [0, 2], 7, []))[0], Go([0, 2], [4]))
        self.assertEqual(self.steps(("goes", [0, 1], 9, []))[0], Go([0], [1]))
        self.assertEqual(self.steps(("goes", [0, 1], 7, []))[1], Go([1], [0, 4]))
        self.assertEqual(self.steps(("goes", [0], 9, []))[0], Go([0]))

    def test_all_own_cells_go_alone(self):
        self.assertIsNone(self.steps(("goes", [0, 2], 9, []))[0])
        self.assertIsNone(self.steps(("goes", [2, 0], 10 ** 30, [(1, 0)]))[2])
        self.assertIsNone(self.steps(("goes", [4], 3, []))[4])

    def test_others_leave(self):
        self.assertEqual(self.steps(("goes", [2, 1, 4], 9, []))[0], Leave([2], [1, 4]))
        self.assertEqual(self.steps(("goes", [2, 1, 4], 9, [(0, 1), (2, 4)]))[0], Leave([2], [4]))
        self.assertEqual(self.steps(("goes", [2, 1, 4], 9, [[0, 1], [0, 4]]))[0], Leave([2]))
        self.assertEqual(self.steps(("goes", [1, 4], 9, [[0, 1]]))[0], Leave([], [4]))
        self.assertIsNone(self.steps(("goes", [1, 4], 9, [[0, 1], (0, 4)]))[0])
        self.assertEqual(self.steps(("goes", [1, 4], 7, []))[0], Leave([], [1]))
        self.assertEqual(self.steps(("goes", [1, 4], 9, [(4, 1), (1, 0)]))[0], Leave([], [1, 4]))

    def test_gifts(self):
        self.assertEqual(self.steps(("grant", [2, 0], [3, 1])), [Grant([1, 3]), None, Grant([1, 3]), None, None])
        self.assertEqual(self.steps(("gives", (4,), (0,))), [None] * 4 + [Give([0])])
        self.assertEqual(self.steps(["gives", [3], [2, 0]]), [None] * 3 + [Give([0, 2]), None])

    def test_it_reads_hands_alone(self):
        bare = State(CHAIN, self.STATE.hands, [["none"] * 5] * 5)
        source = random.Random(45)
        for _ in range(300):
            deed = some_deed(source, bare)
            if deed_fault(bare, deed) is None:
                for cell in range(5):
                    self.assertEqual(step_of(bare, cell, deed), step_of(self.STATE, cell, deed))

    def test_what_is_wrong(self):
        for thing in (-1, 5, *NO_NUMBERS):
            self.assertEqual(caught(lambda: step_of(self.STATE, thing, None)), ("BadCell", thing))
        for deed, word in [(None, "deed"), (("goes", [5], 0, []), "cells"), (("goes", [0], -1, []), "hand"),
                           (("goes", [0], 1, [(0, 0)]), "told"), (("goes", [0, 2], 5, []), "still"),
                           (("grant", [0, 1], [4]), "one"), (("gives", [0], [2]), "same")]:
            self.assertEqual(caught(lambda: step_of(self.STATE, 0, deed)), ("BadDeed", word))

    def test_the_step_can_be_done(self):
        source = random.Random(46)
        for state in some_states(47, 300):
            deed = some_deed(source, state)
            if deed_fault(state, deed) is None:
                for cell in range(state.land.cells):
                    step = step_of(state, cell, deed)
                    if step is not None:
                        self.assertIsNone(step_fault(view_of(state, cell), step))
                        self.assertTrue(tuples_only((step.cells, step.others)))

    def test_from_the_start(self):
        for land in LANDS:
            for lot in subsets(range(1, land.cells))[1:]:
                self.assertEqual(step_of(start_state(land), 0, ("goes", lot, 1, [])), Leave(lot))
                self.assertEqual(step_of(start_state(land), lot[0], ("goes", lot, 1, [])), Go(lot))

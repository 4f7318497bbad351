"""[6.6], [6.7]: pairs and events."""

import random
import unittest

from helpers import CHAIN, NO_NUMBERS, PAIR, ROW, caught, some_histories, tuples_only
from landways.counted import Counted, counteds
from landways.customs import Custom, custom_at, customs
from landways.deeds import is_counted
from landways.everyland import probe_land
from landways.histories import MOST_DEEDS
from landways.states import State, start_state
from landways.twocells import EVENTS, PAIRS, events_to, pair_after, pair_of, pair_states, play_events
from statewalk import came_by, state_graph

OWN = ("own", "asleep")
APART = ("none", "awake", "needed")
WITHOUT_NEED = [custom for custom in customs() if not custom.uses("need")]
NO_WORDS = (None, 0, True, "", "Own", "goes", ["own"], ("own",), {}, b"own")


def custom(**given):
    return Custom(**{**dict(untold="stay", joined="die", sold="none", kept="none", ends="never"), **given})


def counted_events(counted):
    return [event for event in EVENTS if {"untold": counted.untold, "grant": counted.grants,
                                          "gives": counted.giving_up}.get(event, True)]


def fewest_events(one, counted, pair, near):
    """For each pair that events lead to from this one the least number of them."""
    least, level, many = {pair: 0}, [pair], 0
    while level:
        many += 1
        ends = {pair_after(one, here, event, near=near) for here in level for event in counted_events(counted)}
        level = [behind for behind in ends if behind is not None and behind not in least]
        least.update({behind: many for behind in level})
    return least


class Pairs(unittest.TestCase):

    def test_words(self):
        self.assertEqual(PAIRS, ("own", "asleep", "none", "awake", "needed"))
        self.assertEqual(EVENTS, ("sold", "kept", "joined", "untold", "grant", "gives"))

    def test_pairs_of_a_state(self):
        state = State(CHAIN, [4, 4, 5, 5, 6], [["none", "asleep", "awake", "needed", "none"]] + [["none"] * 5] * 4)
        self.assertEqual([pair_of(state, 0, b) for b in range(1, 5)], ["asleep", "awake", "needed", "none"])
        self.assertEqual([pair_of(state, 1, b) for b in (0, 2)], ["own", "none"])

    def test_what_is_no_other_cell(self):
        state = start_state(ROW)
        for thing in (-1, 3, *NO_NUMBERS):
            self.assertEqual(caught(lambda: pair_of(state, thing, 9)), ("BadCell", thing))
            self.assertEqual(caught(lambda: pair_of(state, 0, thing)), ("BadCell", thing))
        self.assertEqual(caught(lambda: pair_of(state, 1, 1)), ("BadCell", 1))


class Events(unittest.TestCase):

    def test_events_that_cannot_happen(self):
        for one in customs():
            for event in EVENTS:
                for pair in APART if event in ("sold", "kept") else OWN:
                    self.assertIsNone(pair_after(one, pair, event))

    def test_parting(self):
        for word, near, far in [("none", "none", "none"), ("all", "awake", "awake"), ("beside", "awake", "none"),
                                ("need", "needed", None)]:
            for clause in ("sold", "kept"):
                one = custom(**{clause: word})
                self.assertEqual(pair_after(one, "own", clause), near)
                self.assertEqual(pair_after(one, "asleep", clause), "awake")
                self.assertEqual(pair_after(one, "own", clause, near=True), near)
                if far is not None:
                    self.assertEqual(pair_after(one, "own", clause, near=False), far)
                    self.assertEqual(pair_after(one, "asleep", clause, near=False), "awake")
        self.assertEqual(pair_after(custom(sold="all"), "own", "kept"), "none")
        self.assertEqual(pair_after(custom(kept="need"), "own", "sold"), "none")

    def test_joining(self):
        for pair in APART:
            self.assertEqual(pair_after(custom(), pair, "joined"), "own")
        for pair, behind in [("none", "own"), ("awake", "asleep"), ("needed", "asleep")]:
            self.assertEqual(pair_after(custom(joined="sleep"), pair, "joined"), behind)

    def test_untold(self):
        for word, behind in [("stay", APART), ("die", ("none",) * 3), ("needed stay", ("none", "none", "needed"))]:
            self.assertEqual(tuple(pair_after(custom(untold=word), pair, "untold") for pair in APART), behind)

    def test_gifts(self):
        for one in customs():
            for pair in APART:
                self.assertEqual((pair_after(one, pair, "grant"), pair_after(one, pair, "gives")), ("awake", "none"))

    def test_what_is_wrong(self):
        one = custom(sold="need", kept="need")
        for thing in NO_WORDS:
            self.assertEqual(caught(lambda: pair_after(one, thing, None, near=False)), ("BadPair", thing))
            self.assertEqual(caught(lambda: pair_after(one, "own", thing, near=False)), ("BadEvent", 0, thing))
        self.assertEqual(caught(lambda: pair_after(one, "own", "own", near=False)), ("BadEvent", 0, "own"))
        for event in EVENTS:
            self.assertEqual(caught(lambda: pair_after(one, "own", event, near=False)), ("NeedsLand", "sold"))
            self.assertEqual(caught(lambda: pair_after(custom(kept="need"), "own", event, near=False)),
                             ("NeedsLand", "kept"))


class Coming(unittest.TestCase):

    def test_pairs_that_can_come(self):
        bare = Counted(False, False, False)
        self.assertEqual(pair_states(custom(), bare), ("own", "none"))
        self.assertEqual(pair_states(custom()), ("own", "none", "awake"))
        self.assertEqual(pair_states(custom(sold="need", joined="sleep"), bare), ("own", "asleep", "none", "awake", "needed"))
        self.assertEqual(pair_states(custom(sold="all", kept="all"), bare), ("own", "awake"))
        self.assertEqual(pair_states(custom(sold="beside", kept="beside"), bare, near=False), ("own", "none"))
        self.assertEqual(pair_states(custom(sold="beside", kept="beside"), bare), ("own", "awake"))

    def test_as_few_events_as_possible(self):
        for one in customs():
            for counted in counteds():
                for near in (True, False) if not one.uses("need") else (True,):
                    least = fewest_events(one, counted, "own", near)
                    self.assertEqual(pair_states(one, counted, near=near), tuple(p for p in PAIRS if p in least))
                    for pair in PAIRS:
                        self.check_way(one, counted, pair, near, least.get(pair))

    def check_way(self, one, counted, pair, near, many):
        way = events_to(one, counted, pair, near=near)
        if many is None:
            self.assertIsNone(way)
            return
        self.assertTrue(tuples_only(way))
        self.assertEqual(len(way), many)
        here = "own"
        for event in way:
            self.assertIn(event, counted_events(counted))
            here = pair_after(one, here, event, near=near)
        self.assertEqual(here, pair)

    def test_no_events(self):
        for one in customs():
            self.assertEqual(events_to(one, Counted(), "own"), ())

    def test_a_pair_that_cannot_come(self):
        self.assertIsNone(events_to(custom(), Counted(), "needed"))
        self.assertIsNone(events_to(custom(), Counted(grants=False), "awake", near=False))

    def test_what_is_wrong(self):
        one = custom(kept="need")
        for thing in NO_WORDS:
            self.assertEqual(caught(lambda: events_to(one, Counted(), thing, near=False)), ("BadPair", thing))
        self.assertEqual(caught(lambda: events_to(one, Counted(), "own", near=False)), ("NeedsLand", "kept"))
        self.assertEqual(caught(lambda: pair_states(one, near=False)), ("NeedsLand", "kept"))
        self.assertEqual(caught(lambda: pair_states(custom(sold="need", kept="need"), near=False)), ("NeedsLand", "sold"))

    def test_counted_left_out_none_by_place_and_by_name(self):
        one = custom(sold="all", untold="die")
        for told in (pair_states(one), pair_states(one, None), pair_states(one, counted=None), pair_states(one, Counted())):
            self.assertEqual(told, ("own", "none", "awake"))

    def test_all_states_of_two_cells(self):
        for one in customs():
            graph = state_graph(one, PAIR)
            for counted in counteds():
                found = set()
                for hands, standings in came_by(graph, counted):
                    found.add(pair_of(State(PAIR, hands, standings), 0, 1))
                self.assertEqual(pair_states(one, counted), tuple(pair for pair in PAIRS if pair in found))

    def test_couples_of_other_lands_without_need(self):
        for history in some_histories(121, [one.number for one in WITHOUT_NEED], many=9):
            counted = Counted(True, True, True)
            for state in history.states():
                for a, b in history.land.couples:
                    near = history.land.is_neighbour(a, b)
                    self.assertIn(pair_of(state, a, b), pair_states(history.custom, counted, near=near))

    def test_each_deed_does_at_most_one_event(self):
        for history in some_histories(122, [one.number for one in WITHOUT_NEED], many=9):
            for k in range(len(history)):
                for a, b in history.land.couples:
                    near = history.land.is_neighbour(a, b)
                    pairs = [pair_of(history.state_at(m), a, b) for m in (k, k + 1)]
                    ends = [pairs[0]] + [pair_after(history.custom, pairs[0], event, near=near) for event in EVENTS]
                    self.assertIn(pairs[1], ends)


class Playing(unittest.TestCase):

    def check(self, one, events):
        history = play_events(one, events)
        self.assertEqual((history.land, history.custom, len(history)), (probe_land("bound"), one, len(events)))
        pair = "own"
        for k, event in enumerate(events):
            self.assertEqual(pair_of(history.state_at(k), 0, 1), pair)
            pair = pair_after(one, pair, event)
            for counted in counteds():
                if event in counted_events(counted):
                    self.assertIs(is_counted(counted, history.state_at(k), history.deeds[k]), True)
        self.assertEqual(pair_of(history.state, 0, 1), pair)

    def test_drawn_events_under_all_customs(self):
        source = random.Random(123)
        for number in range(192):
            one = custom_at(number)
            for _ in range(3):
                pair, events = "own", []
                for _ in range(12):
                    events.append(source.choice([e for e in EVENTS if pair_after(one, pair, e) is not None]))
                    pair = pair_after(one, pair, events[-1])
                self.check(one, source.choice([list, tuple])(events))

    def test_each_event_from_each_pair(self):
        for one in customs():
            for pair in pair_states(one, Counted(True, True, True)):
                way = events_to(one, Counted(True, True, True), pair)
                for event in EVENTS:
                    if pair_after(one, pair, event) is None:
                        self.assertEqual(caught(lambda: play_events(one, way + (event,))), ("BadEvent", len(way), event))
                    else:
                        self.check(one, way + (event,))

    def test_no_events(self):
        self.assertEqual(len(play_events(custom(), [])), 0)
        self.assertEqual(play_events(custom(), ()).land, PAIR)

    def test_many_events(self):
        events = ["sold", "joined"] * (MOST_DEEDS // 2)
        self.assertEqual(len(play_events(custom(sold="all"), events)), MOST_DEEDS)

    def test_what_is_wrong(self):
        for thing in (None, 0, "sold", {"sold": 1}, {"sold"}, iter(["sold"]), True):
            self.assertEqual(caught(lambda: play_events(custom(), thing)), ("BadEvent", 0, thing))
        for thing in NO_WORDS:
            self.assertEqual(caught(lambda: play_events(custom(), ["sold", thing, "sold"])), ("BadEvent", 1, thing))
        self.assertEqual(caught(lambda: play_events(custom(), ["joined"])), ("BadEvent", 0, "joined"))
        self.assertEqual(caught(lambda: play_events(custom(), ["sold", "kept", None])), ("BadEvent", 1, "kept"))

    def test_what_is_passed_in_stays(self):
        events = ["sold", "grant"]
        play_events(custom(), events)
        self.assertEqual(events, ["sold", "grant"])

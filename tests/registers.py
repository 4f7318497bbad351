"""Drawn registers of which some words are lost, and their fillings told a second time."""

import random
from itertools import product

from helpers import PAIR, RING, ROW, VEE, some_deeds, subsets
from landways.customs import custom_at
from landways.errors import BadHistory
from landways.histories import History
from landways.smudges import Smudged


def lost_rows(source, land, deeds, most):
    """Rows of lost words for some of the deeds that go, not too many fillings in all."""
    going = [k for k, deed in enumerate(deeds) if deed[0] == "goes"]
    rows, many = [], 1
    for k, word in source.sample([(k, word) for k in going for word in ("told", "hand")], min(most, 2 * len(going))):
        if word == "told":
            # Most of them bear on a cell that moves, so that telling them matters.
            bearing = [(a, b) for a, b in land.couples if b in deeds[k][1] and a not in deeds[k][1]]
            pool = bearing if bearing and source.random() < 0.8 else land.couples
            couples = source.sample(pool, min(len(pool), source.randint(1, 3)))
            deeds[k] = (*deeds[k][:3], [couple for couple in deeds[k][3] if source.random() < 0.3])
            row = ("told", k, [source.choice([list, tuple])(couple) for couple in couples])
            size = 2 ** len(couples)
        else:
            hands = sorted({deeds[k][2], source.randint(0, 4), source.randint(0, 4)}, key=lambda hand: source.random())
            row, size = ("hand", k, hands), len(hands)
        if many * size <= 64:
            rows.append(row)
            many *= size
    return rows


def some_registers(seed, customs=range(192), many=4, most=3, lands=(PAIR, ROW, VEE, RING)):
    """Yield the parts of a register that has a lawful filling for each of the customs: land, custom, deeds, lost."""
    source = random.Random(seed)
    for k, number in enumerate(customs):
        land, custom = lands[k % len(lands)], custom_at(number)
        deeds = some_deeds(source, land, custom, source.randint(1, many))
        lost = lost_rows(source, land, deeds, source.randint(0, most))
        # The hand that stands in the place of a lost one counts no more.
        for word, index, _ in lost:
            if word == "hand" and source.random() < 0.5:
                deeds[index] = (*deeds[index][:2], source.randint(0, 4), deeds[index][3])
        if fillings_told_again(land, custom, deeds, lost):
            yield land, custom, deeds, lost


def findings_of(row):
    """All findings of a row in order."""
    if row[0] == "hand":
        return list(row[2])
    return subsets(tuple(couple) for couple in row[2])


def filled(deeds, lost, findings):
    """The deeds with the findings put in."""
    deeds = [tuple(deed) for deed in deeds]
    for (word, index, _), finding in zip(lost, findings):
        going, cells, hand, told = deeds[index]
        if word == "hand":
            hand = finding
        else:
            there = [tuple(couple) for couple in told]
            told = tuple(there + sorted(couple for couple in finding if couple not in there))
        deeds[index] = (going, cells, hand, told)
    return deeds


def fillings_told_again(land, custom, deeds, lost):
    """All (findings, history) of lawful fillings, in order."""
    rows = []
    for findings in product(*[findings_of(row) for row in lost]):
        try:
            rows.append((findings, History(land, custom, filled(deeds, lost, findings))))
        except BadHistory:
            pass
    return rows


def some_smudges(seed, customs=range(192), many=4, most=3, lands=(PAIR, ROW, VEE, RING)):
    """Yield drawn registers with their lawful fillings."""
    for land, custom, deeds, lost in some_registers(seed, customs, many, most, lands):
        yield Smudged(land, custom, deeds, lost), fillings_told_again(land, custom, deeds, lost)

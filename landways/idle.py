"""Which words of a clause make no difference on a land [8.7]."""

from landways.comparing import are_alike
from landways.customs import CLAUSES, words
from landways.twintables import check_width
from landways.twinviews import check_measure


def alike_words(land, custom, clause, counted=None, *, measure="standing"):
    """The words of the clause with which the custom is alike to itself as it is, in order."""
    check_width(land)
    check_measure(measure)
    found = []
    for word in words(clause):
        if are_alike(land, custom, custom.changed(clause, word), counted, measure=measure):
            found.append(word)
    return tuple(found)


def idle_clauses(land, custom, counted=None, *, measure="standing"):
    """The clauses all of whose words are alike, in order."""
    return tuple([clause for clause in CLAUSES
                  if alike_words(land, custom, clause, counted, measure=measure) == words(clause)])

"""Which customs are alike, or kinder, on all lands of any size [8.8], [8.9]."""

from landways.comparing import Unlike, compare_customs, first_unlike
from landways.counted import meant
from landways.customs import CLAUSES, check_sides, custom_rows, numbers_among, words
from landways.everyland import is_nowhere
from landways.gathering import goes_told
from landways.kinder import compare_kindness
from landways.lands import Land
from landways.twinruns import TwinRun
from landways.twinviews import check_measure

# The cells that go, and their hands, in the two runs of which one tells apart, by "open", what no run on lands of
# two and three cells does.
_LOOSE_RUNS = ((((0,), 1), ((2, 3), 1), ((3,), 2)), (((1, 2, 3), 1), ((2, 3), 0), ((0, 2), 2)))


class OnAllLands:
    """The two customs are alike on all lands."""

    def __init__(self, one, other, counted, measure):
        self.one = one
        self.other = other
        self.counted = counted
        self.measure = measure


def _small_lands():
    """The trial lands of two and three cells."""
    return (Land(2, [(0, 1)], [1]), Land(3, [(0, 1), (1, 2)], [2]), Land(3, [(0, 1), (0, 2)], [1, 2]))


def _wide_land():
    """The trial land of four cells, whose cell 0 is loose."""
    return Land(4, [(0, 1), (0, 2), (2, 3)], [1, 3])


def trial_lands(measure):
    """The lands on which two customs are alike only if they are alike on all lands."""
    check_measure(measure)
    return _small_lands() + (_wide_land(),) if measure == "open" else _small_lands()


# The rule of [8.8] asks for words alone, so it is told for the rows of customs, and no Custom is made for it. Of all
# clauses only sold and kept have the words "all", "beside" and "need", and only joined has "sleep".

def _sides(row):
    """The words of sold and kept."""
    return row[2:4]


def _uses_need(row):
    """Whether rights can arise by need."""
    return "need" in row


def _can_be_awake(row, counted):
    """Whether a right can ever be awake."""
    if counted.grants or "all" in row or "beside" in row:
        return True
    return _uses_need(row) and "sleep" in row


def _can_stand(row, counted):
    """Whether a right can ever be awake or needed."""
    return _uses_need(row) or _can_be_awake(row, counted)


def _alike_untold(row, counted):
    """The words of the clause untold that do the same as that of the row, in order."""
    if not counted.untold or not _can_stand(row, counted):
        return words("untold")
    own = row[0]
    if not _uses_need(row):
        # No right is ever needed, so none stays for being needed.
        return ("stay",) if own == "stay" else ("die", "needed stay")
    if own != "die" and not _can_be_awake(row, counted):
        return ("stay", "needed stay")
    return (own,)


def _is_joined_idle(row, counted, measure):
    """Whether the words of the clause joined do the same to standings, or else to what is passed."""
    if not _can_stand(row, counted):
        return True
    if measure == "standing":
        return False
    return _sides(row) == ("all", "all") or (_sides(row) == ("beside", "beside") and not counted.grants)


def _alike_words(row, counted, measure):
    """For each clause the words, in order, of the customs that stand alike, or else pass alike, on all lands.

    Just the customs of these words are alike to that of the row, and for each of them the same words are told.
    """
    _, joined, sold, kept, ends = row
    return (_alike_untold(row, counted),
            words("joined") if _is_joined_idle(row, counted, measure) else (joined,),
            (sold,),
            (kept,),
            (ends,) if _uses_need(row) else words("ends"))


def _are_alike(one, other, counted, measure):
    """Whether the customs of the two rows are alike on all lands, by the rule of [8.8]."""
    if measure == "open" and is_nowhere(one, counted) and is_nowhere(other, counted):
        return True
    # Unlike sides tell most customs apart, without all the words.
    if _sides(one) != _sides(other):
        return False
    return _alike_words(one, counted, measure) == _alike_words(other, counted, measure)


def _loose_run(one, other, measure):
    """The run on the land of four cells that tells apart two customs that no run on a smaller land does."""
    land = _wide_land()
    # All is told, so that the runs are counted where deeds that leave a couple untold are not.
    runs = [TwinRun(land, one, other, [goes_told(land, cells, hand) for cells, hand in moves]) for moves in _LOOSE_RUNS]
    return [run for run in runs if run.differs_at(measure) is not None][0]


def compare_everywhere(one, other, counted=None, *, measure="standing"):
    """Whether the two customs are alike on all lands, or else a run that tells them apart."""
    check_measure(measure)
    truth = meant(counted)
    if _are_alike(one.row, other.row, truth, measure):
        return OnAllLands(one, other, truth, measure)
    for land in _small_lands():
        told = compare_customs(land, one, other, truth, measure=measure)
        if isinstance(told, Unlike):
            return told
    return first_unlike(_loose_run(one, other, measure), measure)


def are_alike_everywhere(one, other, counted=None, *, measure="standing"):
    """Whether the two customs are alike on all lands."""
    check_measure(measure)
    return _are_alike(one.row, other.row, meant(counted), measure)


def alike_customs(custom, counted=None, *, measure="standing"):
    """The numbers of all customs that are alike to the custom on all lands, ascending."""
    check_measure(measure)
    truth = meant(counted)
    if measure == "open" and is_nowhere(custom.row, truth):
        return tuple([number for number, row in enumerate(custom_rows()) if is_nowhere(row, truth)])
    return numbers_among(_alike_words(custom.row, truth, measure))


def custom_classes(counted=None, *, measure="standing"):
    """Yield the numbers of each class of customs that are alike on all lands, by their first numbers."""
    check_measure(measure)
    truth = meant(counted)
    found = {}
    for number, row in enumerate(custom_rows()):
        mark = _alike_words(row, truth, measure)
        if measure == "open" and is_nowhere(row, truth):
            # All customs under which no cell is ever shut off are alike, whatever their words.
            mark = ()
        found.setdefault(mark, []).append(number)
    for numbers in found.values():
        yield tuple(numbers)


def idle_everywhere(custom, counted=None, *, measure="standing"):
    """The clauses all of whose words are alike on all lands, in order."""
    check_measure(measure)
    truth = meant(counted)
    row = custom.row
    return tuple([clause for at, clause in enumerate(CLAUSES)
                  if all([_are_alike(row, row[:at] + (word,) + row[at + 1:], truth, measure)
                          for word in words(clause)])])


def kinder_everywhere(one, other, counted=None):
    """Whether the other custom is kinder than the one on every land, told on the row of three cells."""
    check_sides(one, "need")
    check_sides(other, "need")
    return compare_kindness(_small_lands()[1], one, other, counted)

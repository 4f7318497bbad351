"""Which customs are alike, or kinder, on all lands of any size [8.8], [8.9]."""

from landways.comparing import Unlike, compare_customs, first_unlike
from landways.counted import meant
from landways.customs import CLAUSES, MOST_CUSTOMS, check_sides, custom_at, words
from landways.everyland import on_all_lands
from landways.gathering import goes_told
from landways.kinder import compare_kindness
from landways.lands import Land
from landways.twinruns import TwinRun
from landways.twinviews import check_measure

# The cells that go, and their hands, in the two runs of which one tells apart, by "open", what no run on lands of
# two and three cells does.
_LOOSE_RUNS = ((((0,), 1), ((2, 3), 1), ((3,), 2)), (((1, 2, 3), 1), ((2, 3), 0), ((0, 2), 2)))


class OnAllLands:
    """The two customs are alike on all lands."""

    def __init__(self, one, other, counted, measure):
        self.one = one
        self.other = other
        self.counted = counted
        self.measure = measure


def _small_lands():
    """The trial lands of two and three cells."""
    return (Land(2, [(0, 1)], [1]), Land(3, [(0, 1), (1, 2)], [2]), Land(3, [(0, 1), (0, 2)], [1, 2]))


def _wide_land():
    """The trial land of four cells, whose cell 0 is loose."""
    return Land(4, [(0, 1), (0, 2), (2, 3)], [1, 3])


def trial_lands(measure):
    """The lands on which two customs are alike only if they are alike on all lands."""
    check_measure(measure)
    return _small_lands() + (_wide_land(),) if measure == "open" else _small_lands()


def _uses_need(custom):
    """Whether rights can arise by need."""
    return "need" in (custom.sold, custom.kept)


def _can_be_awake(custom, counted):
    """Whether a right can ever be awake."""
    sides = (custom.sold, custom.kept)
    if counted.grants or "all" in sides or "beside" in sides:
        return True
    return "need" in sides and custom.joined == "sleep"


def _can_stand(custom, counted):
    """Whether a right can ever be awake or needed."""
    return _can_be_awake(custom, counted) or _uses_need(custom)


def _untold_alike(one, other, counted):
    """Whether the words of the clause untold do the same to standings; all else does."""
    if one.untold == other.untold or not counted.untold:
        return True
    both = (one.untold, other.untold)
    if "needed stay" not in both:
        return not _can_stand(one, counted)
    if "stay" in both:
        return not _can_be_awake(one, counted)
    return not _uses_need(one)


def _standing_alike(one, other, counted):
    """Whether no standing ever differs, on any land."""
    if (one.sold, one.kept) != (other.sold, other.kept):
        return False
    if one.ends != other.ends and _uses_need(one):
        return False
    if one.joined != other.joined and _can_stand(one, counted):
        return False
    return _untold_alike(one, other, counted)


def _joined_alike(one, other, counted):
    """Whether the words of the clause joined do the same to what is passed, without need; all else does."""
    if one.joined == other.joined:
        return True
    sides = (one.sold, one.kept)
    if sides == ("all", "all"):
        return True
    return not counted.grants and sides in (("none", "none"), ("beside", "beside"))


def _passing_alike(one, other, counted):
    """Whether no cell ever passes unlike cells, on any land."""
    if (one.sold, one.kept) != (other.sold, other.kept):
        return False
    if _uses_need(one):
        if one.joined != other.joined or one.ends != other.ends:
            return False
        both = (one.untold, other.untold)
        staying = "stay" in both and "needed stay" in both and not _can_be_awake(one, counted)
        return one.untold == other.untold or not counted.untold or staying
    if not _joined_alike(one, other, counted):
        return False
    if one.untold == other.untold or not counted.untold:
        return True
    return "stay" not in (one.untold, other.untold) or not _can_stand(one, counted)


def _are_alike(one, other, counted, measure):
    """Whether the two customs are alike on all lands, by the rule of [8.8]."""
    if measure == "standing":
        return _standing_alike(one, other, counted)
    if _passing_alike(one, other, counted):
        return True
    return measure == "open" and on_all_lands(one, counted).nowhere and on_all_lands(other, counted).nowhere


def _loose_run(one, other, measure):
    """The run on the land of four cells that tells apart two customs that no run on a smaller land does."""
    land = _wide_land()
    # All is told, so that the runs are counted where deeds that leave a couple untold are not.
    runs = [TwinRun(land, one, other, [goes_told(land, cells, hand) for cells, hand in moves]) for moves in _LOOSE_RUNS]
    return [run for run in runs if run.differs_at(measure) is not None][0]


def compare_everywhere(one, other, counted=None, *, measure="standing"):
    """Whether the two customs are alike on all lands, or else a run that tells them apart."""
    check_measure(measure)
    truth = meant(counted)
    if _are_alike(one, other, truth, measure):
        return OnAllLands(one, other, truth, measure)
    for land in _small_lands():
        told = compare_customs(land, one, other, truth, measure=measure)
        if isinstance(told, Unlike):
            return told
    return first_unlike(_loose_run(one, other, measure), measure)


def are_alike_everywhere(one, other, counted=None, *, measure="standing"):
    """Whether the two customs are alike on all lands."""
    check_measure(measure)
    return _are_alike(one, other, meant(counted), measure)


def _alike_from(first, custom, counted, measure):
    """The numbers, from this one on, of the customs that are alike to the custom on all lands."""
    return tuple([number for number in range(first, MOST_CUSTOMS)
                  if _are_alike(custom, custom_at(number), counted, measure)])


def alike_customs(custom, counted=None, *, measure="standing"):
    """The numbers of all customs that are alike to the custom on all lands, ascending."""
    check_measure(measure)
    return _alike_from(0, custom, meant(counted), measure)


def custom_classes(counted=None, *, measure="standing"):
    """Yield the numbers of each class of customs that are alike on all lands, by their first numbers."""
    check_measure(measure)
    truth = meant(counted)
    known = {}
    for number in range(MOST_CUSTOMS):
        if number not in known:
            found = _alike_from(number, custom_at(number), truth, measure)
            known.update({other: True for other in found})
            yield found


def idle_everywhere(custom, counted=None, *, measure="standing"):
    """The clauses all of whose words are alike on all lands, in order."""
    check_measure(measure)
    truth = meant(counted)
    return tuple([clause for clause in CLAUSES
                  if all([_are_alike(custom, custom.changed(clause, word), truth, measure) for word in words(clause)])])


def kinder_everywhere(one, other, counted=None):
    """Whether the other custom is kinder than the one on every land, told on the row of three cells."""
    check_sides(one, "need")
    check_sides(other, "need")
    return compare_kindness(_small_lands()[1], one, other, counted)

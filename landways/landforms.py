"""The least forms of all lands of two, three or four cells [1.6]."""

from landways.errors import BadNumber
from landways.lands import Land, hang_together, is_whole
from landways.likeness import least_form
from landways.lots import all_lots


def _all_neighbours(cells):
    """All choices of neighbours over which so many cells hang together, ascending as tuples."""
    couples = [(a, b) for a in range(cells) for b in range(a + 1, cells)]
    lots = all_lots(list(range(len(couples))))
    choices = [tuple([couples[k] for k in lot]) for lot in lots]
    return sorted([choice for choice in choices if hang_together(cells, choice)])


def _all_roads(cells):
    """All choices of road cells, some but not all, ascending as tuples."""
    return sorted([lot for lot in all_lots(list(range(cells))) if 0 < len(lot) < cells])


def all_lands(cells):
    """Yield the least forms of all lands of so many cells, by neighbours, then by roads."""
    if not is_whole(cells, 2, 4):
        raise BadNumber(cells)
    for neighbours in _all_neighbours(cells):
        for roads in _all_roads(cells):
            land = Land(cells, neighbours, roads)
            if land == least_form(land):
                yield land


def number_of_lands(cells):
    """How many lands of so many cells there are, alike ones counted once."""
    return len(list(all_lands(cells)))

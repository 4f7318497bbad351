"""The text of a land [1.7]."""

from landways.errors import BadLand, BadText
from landways.lands import Land


def land_text(land):
    """The text of the land."""
    rows = [f"cells {land.cells}", _row("roads", land.roads)]
    return "\n".join(rows + [_row("next", couple) for couple in land.neighbours])


def _row(word, numbers):
    """A row of a word and numbers."""
    return " ".join([word] + [str(number) for number in numbers])


def _digits(word, row):
    """The digits behind the word of a row, as a tuple of numbers, or None if the row has another form."""
    parts = row.split(" ")
    if parts[0] != word:
        return None
    # isdigit alone would also take digits of other scripts.
    if not all([len(part) == 1 and part.isascii() and part.isdigit() for part in parts[1:]]):
        return None
    return tuple([int(part) for part in parts[1:]])


def _read_cells(row):
    """The number of cells, or None."""
    numbers = _digits("cells", row)
    if numbers is None or len(numbers) != 1:
        return None
    return numbers[0]


def _read_roads(row):
    """The road cells, or None; one that stands twice is left for Land to refuse."""
    roads = _digits("roads", row)
    if roads is None or len(roads) == 0 or list(roads) != sorted(roads):
        return None
    return roads


def _read_next(row, last):
    """A couple of neighbours behind the last one, which is () ahead of the first, or None."""
    couple = _digits("next", row)
    if couple is None or len(couple) != 2 or couple[0] >= couple[1] or couple <= last:
        return None
    return couple


def _checked(part, row):
    """The part of a land that a row tells, refused if it tells none."""
    if part is None:
        raise BadText(row, "row")
    return part


def parse_land(text):
    """The land with exactly this text."""
    if not isinstance(text, str):
        raise BadText(0, "text")
    rows = text.split("\n")
    cells = _checked(_read_cells(rows[0]), 0)
    roads = _checked(_read_roads(rows[1]) if len(rows) > 1 else None, 1)
    neighbours = []
    last = ()
    for k in range(2, len(rows)):
        last = _checked(_read_next(rows[k], last), k)
        neighbours.append(last)
    try:
        return Land(cells, neighbours, roads)
    except BadLand:
        raise BadText(0, "land") from None

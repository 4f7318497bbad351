"""The text of a view [4.3]."""

from landways.errors import BadText
from landways.lands import is_cell
from landways.views import DIGITS, view_by_ways

# The letters of the ways, in the order of the ways.
_LETTERS = ("o", "s", ".", "a", "n")


def view_text(view):
    """The text of the view: the cell, a colon, a blank, and a letter for each other cell."""
    ways = [view.way_of(b) for b in view.land.others(view.cell)]
    return f"{view.cell}: " + "".join([_LETTERS[DIGITS.index(way)] for way in ways])


def _read_cell(land, text):
    """The cell with which the text of a view begins."""
    sign = text[:1]
    # isdigit alone would also take digits of other scripts.
    cell = int(sign) if sign.isascii() and sign.isdigit() else None
    if not is_cell(land, cell) or text[1:3] != ": ":
        raise BadText(0, "cell")
    return cell


def parse_view(land, text):
    """The view with exactly this text."""
    if not isinstance(text, str):
        raise BadText(0, "text")
    cell = _read_cell(land, text)
    letters = text[3:]
    if len(letters) != land.cells - 1 or not all([letter in _LETTERS for letter in letters]):
        raise BadText(0, "ways")
    return view_by_ways(land, cell, [DIGITS[_LETTERS.index(letter)] for letter in letters])

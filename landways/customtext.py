"""The text of a custom [2.5]."""

from landways.customs import CLAUSES, Custom, words
from landways.errors import BadText


def custom_text(custom):
    """The text of the custom."""
    return "; ".join([f"{clause} {word}" for clause, word in zip(CLAUSES, custom.row)])


def _read_word(pieces, place):
    """The word of the clause at this place, from the piece at this place."""
    clause = CLAUSES[place]
    if place >= len(pieces) or not pieces[place].startswith(clause + " "):
        raise BadText(place, "clause")
    word = pieces[place].removeprefix(clause + " ")
    if word not in words(clause):
        raise BadText(place, "word")
    return word


def parse_custom(text):
    """The custom with exactly this text."""
    if not isinstance(text, str):
        raise BadText(0, "text")
    pieces = text.split("; ")
    row = [_read_word(pieces, place) for place in range(len(CLAUSES))]
    if len(pieces) > len(CLAUSES):
        raise BadText(len(CLAUSES), "clause")
    return Custom(*row)

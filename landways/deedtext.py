"""The texts of deeds and of histories [2.6]."""

from landways.customtext import custom_text, parse_custom
from landways.deeds import shape_fault, shaped
from landways.errors import BadHistory, BadText
from landways.histories import History
from landways.lands import MOST_HAND
from landways.landtext import land_text, parse_land


def _numbers_text(numbers):
    """The numbers with a space between two."""
    return " ".join([str(number) for number in numbers])


def deed_text(deed):
    """The text of a deed of right shape."""
    plain = shaped(deed)
    text = f"{plain[0]} {_numbers_text(plain[1])}"
    if plain[0] != "goes":
        return f"{text} over {_numbers_text(plain[2])}"
    text = f"{text} to {plain[2]}"
    told = " ".join([f"{a}>{b}" for a, b in plain[3]])
    return f"{text} told {told}" if told else text


def _number(word):
    """The number with these digits, or None; longer ones than a hand can have are none."""
    if not word.isascii() or not word.isdigit() or len(word) > len(str(MOST_HAND)):
        return None
    return int(word)


def _numbers(parts):
    """The numbers, None for each part that is none."""
    return [_number(part) for part in parts]


def _read_goes(parts):
    """What may be a deed that goes, from the words behind its first one, or None."""
    if "to" not in parts:
        return None
    at = parts.index("to")
    if at + 1 == len(parts):
        return None
    told = [_numbers(part.split(">")) for part in parts[at + 3:]]
    return ("goes", _numbers(parts[:at]), _number(parts[at + 1]), told)


def _read_gift(parts):
    """What may be a deed that grants or gives up, from its words, or None."""
    if "over" not in parts:
        return None
    at = parts.index("over")
    return (parts[0], _numbers(parts[1:at]), _numbers(parts[at + 1:]))


def _read_deed(land, text):
    """The shaped deed with exactly this text, or None."""
    parts = text.split(" ")
    deed = _read_goes(parts[1:]) if parts[0] == "goes" else _read_gift(parts)
    # The reading is loose. What is no deed with this very text is found out here.
    if shape_fault(land, deed) is not None or deed_text(deed) != text:
        return None
    return shaped(deed)


def parse_deed(land, text):
    """The shaped deed with exactly this text."""
    if not isinstance(text, str):
        raise BadText(0, "text")
    deed = _read_deed(land, text)
    if deed is None:
        raise BadText(0, "deed")
    return deed


def history_text(history):
    """The text of the history."""
    rows = [land_text(history.land), f"custom {custom_text(history.custom)}"]
    return "\n".join(rows + [deed_text(deed) for deed in history.deeds])


def _custom_row(rows):
    """The place of the first row that tells a custom, or the number of rows if there is none."""
    for place, row in enumerate(rows):
        if row.startswith("custom "):
            return place
    return len(rows)


def _read_custom(rows, place):
    """The custom that the row at this place tells."""
    if place == len(rows):
        raise BadText(place, "custom")
    try:
        return parse_custom(rows[place].removeprefix("custom "))
    except BadText:
        raise BadText(place, "custom") from None


def parse_history(text):
    """The history with exactly this text."""
    if not isinstance(text, str):
        raise BadText(0, "text")
    rows = text.split("\n")
    place = _custom_row(rows)
    land = parse_land("\n".join(rows[:place]))
    custom = _read_custom(rows, place)
    first = place + 1
    # A row that tells no deed becomes None here, which no history takes for a deed.
    deeds = [_read_deed(land, row) for row in rows[first:]]
    try:
        return History(land, custom, deeds)
    except BadHistory as fault:
        raise BadText(first + fault.index, fault.what) from None

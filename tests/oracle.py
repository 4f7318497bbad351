"""Part 3 told a second time, as near to its words as can be, and without the package."""

from itertools import combinations


def is_open(land, cell, passing):
    """Whether some way without repeats leads over passed cells to the road."""
    roads = set(land.roads)
    steps = set(land.neighbours) | {(b, a) for a, b in land.neighbours}

    def leads(way):
        if way[-1] in roads:
            return True
        further = [b for b in passing if b not in way and (way[-1], b) in steps]
        return any(leads(way + [b]) for b in further)

    return leads([cell])


def least_lots(land, cell, passing, among):
    """All lots of the fewest cells that open the cell."""
    cells = sorted(set(among) - {cell})
    for many in range(len(cells) + 1):
        found = [lot for lot in combinations(cells, many) if is_open(land, cell, set(passing) | set(lot))]
        if found:
            return tuple(found)
    return ()


def passing(hands, rights, a):
    """The cells that a passes."""
    return {b for b in range(len(hands)) if hands[b] == hands[a] or rights[a, b] in ("awake", "needed")}


def _end(custom, land, hands, rights):
    if custom.ends == "never":
        return
    for a in range(land.cells):
        for b in range(land.cells):
            if a != b and rights[a, b] == "needed" and is_open(land, a, passing(hands, rights, a) - {b}):
                rights[a, b] = "none"


def _arise(custom, land, hands, rights, moving, parted):
    for a in range(land.cells):
        clause = custom.sold if a in moving else custom.kept
        free = [b for (x, b) in parted if x == a and rights[a, b] == "none"]
        if clause == "all":
            for b in free:
                rights[a, b] = "awake"
        if clause == "beside":
            for b in free:
                if tuple(sorted((a, b))) in land.neighbours:
                    rights[a, b] = "awake"
        if clause == "need" and not is_open(land, a, passing(hands, rights, a)):
            lots = least_lots(land, a, passing(hands, rights, a), free)
            for b in lots[0] if lots else ():
                rights[a, b] = "needed"


def _row(stage, land, hands, rights):
    row = [[rights.get((a, b), "none") for b in range(land.cells)] for a in range(land.cells)]
    return (stage, tuple(hands), tuple(tuple(words) for words in row))


def stages(custom, land, hands, standings, deed):
    """All stages of a deed that can be done."""
    rights = {(a, b): standings[a][b] for a in range(land.cells) for b in range(land.cells) if a != b}
    if deed[0] != "goes":
        for a in deed[1]:
            for b in deed[2]:
                if deed[0] == "grant" and rights[a, b] in ("none", "needed"):
                    rights[a, b] = "awake"
                if deed[0] == "gives" and rights[a, b] in ("awake", "needed"):
                    rights[a, b] = "none"
        rows = [_row("granted" if deed[0] == "grant" else "given", land, hands, rights)]
        _end(custom, land, hands, rights)
        return rows + [_row("ended", land, hands, rights)]
    ahead = list(hands)
    moving = [a for a in deed[1] if ahead[a] != deed[2]]
    now = [deed[2] if a in moving else hand for a, hand in enumerate(ahead)]
    told = [tuple(couple) for couple in deed[3]]
    rows = [_row("hands", land, now, rights)]
    for a, b in rights:
        if b in moving and now[a] != deed[2] and rights[a, b] in ("awake", "needed") and (a, b) not in told:
            if custom.untold == "die" or (custom.untold == "needed stay" and rights[a, b] == "awake"):
                rights[a, b] = "none"
    rows.append(_row("untold", land, now, rights))
    for a, b in rights:
        if ahead[a] != ahead[b] and now[a] == now[b] and rights[a, b] in ("awake", "needed"):
            rights[a, b] = "asleep" if custom.joined == "sleep" else "none"
    rows.append(_row("joined", land, now, rights))
    parted = [(a, b) for a, b in rights if ahead[a] == ahead[b] and now[a] != now[b]]
    for a, b in parted:
        if rights[a, b] == "asleep":
            rights[a, b] = "awake"
    rows.append(_row("woken", land, now, rights))
    _arise(custom, land, now, rights, moving, parted)
    rows.append(_row("arisen", land, now, rights))
    _end(custom, land, now, rights)
    return rows + [_row("ended", land, now, rights)]

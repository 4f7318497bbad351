"""All lots of some cells, in order [1.3]."""


def all_lots(cells):
    """All lots of the ascending cells: fewer cells first, lots of one size as tuples are ordered."""
    lots = [()]
    for cell in cells:
        lots = lots + [lot + (cell,) for lot in lots]
    return tuple(sorted(lots, key=lambda lot: (len(lot), lot)))

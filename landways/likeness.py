"""Orders of cells, renumbered lands, and which lands are alike [1.5]."""

from landways.errors import BadCells
from landways.lands import Land, are_cells


def all_orders(many):
    """All orders of so many cells, ascending as tuples."""
    orders = [()]
    for _ in range(many):
        orders = [order + (cell,) for order in orders for cell in range(many) if cell not in order]
    return tuple(orders)


def check_order(many, order):
    """Refuse what is no sequence of the numbers below `many`, each once."""
    if not are_cells(many, order, many):
        raise BadCells("order")


def led_lot(order, lot):
    """The ascending lot of the new numbers of the cells."""
    return tuple(sorted([order[cell] for cell in lot]))


def led_couple(order, couple):
    """The couple of the new numbers of its cells."""
    return (order[couple[0]], order[couple[1]])


def _led_parts(land, order):
    """The neighbours and the roads of the land with new numbers, in the form that a Land has."""
    return (tuple(sorted([led_lot(order, couple) for couple in land.neighbours])), led_lot(order, land.roads))


def renumbered(land, order):
    """The land with new numbers: order[k] in the place of cell k."""
    check_order(land.cells, order)
    neighbours, roads = _led_parts(land, order)
    return Land(land.cells, neighbours, roads)


def likenesses(one, other):
    """Yield all orders that turn the one land into the other, ascending."""
    for order in all_orders(one.cells):
        if renumbered(one, order) == other:
            yield order


def least_form(land):
    """The renumbered land with the least neighbours, and of these the least roads."""
    neighbours, roads = min([_led_parts(land, order) for order in all_orders(land.cells)])
    return Land(land.cells, neighbours, roads)

"""Laying plates one behind another, or several at once, such that they stay safe."""

from laidplates.deriving import check_safe, lost_cells
from laidplates.errors import NoCell
from laidplates.tables import check_plates, last_versions, source_rows
from laidplates.things import is_integer, is_number_below


def harmed(table, journal, plates, cell):
    """The lot of the cells whose present is not derived when this cell is laid."""
    check_plates(table, journal, plates)
    if not is_number_below(table.cells, cell):
        raise NoCell()
    last = last_versions(table, journal)
    return lost_cells(source_rows(table, journal), last, laid(last, plates, (cell,)))


def laid(last, plates, lot):
    """The plates behind laying the cells of the lot, the presents being last."""
    return tuple([last[cell] if cell in lot else version for cell, version in enumerate(plates)])


def cells_to_lay(table, journal, plates):
    """The lot of the cells whose plates do not hold their presents."""
    return not_held(last_versions(table, journal), plates)


def not_held(last, plates):
    """The lot of the cells whose plates do not hold their presents, last."""
    return tuple([cell for cell, version in enumerate(plates) if version != last[cell]])


def lots_of(cells):
    """The list of all lots of some of these cells; each one stands behind its parts."""
    lots = [()]
    for cell in cells:
        lots = lots + [lot + (cell,) for lot in lots]
    return lots


def with_cell(lot, cell):
    return tuple(sorted([*lot, cell]))


def without_cells(lot, cells):
    return tuple([cell for cell in lot if cell not in cells])


def losses(table, journal, plates):
    """A dict from each lot of cells to be laid to the lot of the cells lost when it is laid.

    Each lot stands behind its parts in it. Raises what is named for safe plates.
    """
    check_safe(table, journal, plates)
    rows = source_rows(table, journal)
    last = last_versions(table, journal)
    lots = lots_of(cells_to_lay(table, journal, plates))
    return {lot: lost_cells(rows, last, laid(last, plates, lot)) for lot in lots}


def safe_lots(table, journal, plates):
    """The list of the lots of cells behind whose laying the plates are safe."""
    return [lot for lot, gone in losses(table, journal, plates).items() if gone == ()]


def orders(table, journal, plates):
    """A dict from each lot that can be laid one by one to an order in which it can."""
    return orders_through(safe_lots(table, journal, plates))


def orders_through(lots):
    """A dict from each of the lots that can be laid by going through them to an order of this.

    Each lot stands behind its parts in the list.
    """
    found = {(): ()}
    for lot in lots:
        for cell in lot:
            ahead = without_cells(lot, (cell,))
            if ahead in found:
                found[lot] = found[ahead] + (cell,)
    return found


def lay_out(table, journal, plates):
    """A laying out, or None."""
    return orders(table, journal, plates).get(cells_to_lay(table, journal, plates))


def is_laying_out(table, journal, plates, thing):
    """Whether the thing is one; losses know no lot with a cell twice, or with one not to be laid."""
    gone = losses(table, journal, plates)
    if not isinstance(thing, tuple):
        return False
    lot = ()
    for cell in thing:
        if not is_integer(cell):
            return False
        lot = with_cell(lot, cell)
        if gone.get(lot) != ():
            return False
    return lot == cells_to_lay(table, journal, plates)


def count_layings(table, journal, plates):
    """How many layings out there are."""
    ways = {(): 1}
    for lot in safe_lots(table, journal, plates):
        if lot != ():
            ways[lot] = sum([ways.get(without_cells(lot, (cell,)), 0) for cell in lot])
    return ways[cells_to_lay(table, journal, plates)]


def at_once(table, journal, plates):
    """The lots in which the cells are laid, the greatest of them as small as can be."""
    found = {(): (0, ())}
    for lot in safe_lots(table, journal, plates):
        if lot != ():
            found[lot] = narrowest(found, lot)
    return found[cells_to_lay(table, journal, plates)][1]


def narrowest(found, lot):
    """The way to lay a lot whose greatest step is smallest: the pair (size of that step, steps).

    Its last step is from some part of the lot that is in found, as the empty one is.
    """
    best = (len(lot), (lot,))
    for ahead in lots_of(lot):
        if ahead in found:
            size, steps = found[ahead]
            step = without_cells(lot, ahead)
            if max(size, len(step)) < best[0]:
                best = (max(size, len(step)), steps + (step,))
    return best

"""Second places: cells whose elder copy stays where it is until all is laid out."""

from laidplates.deriving import lost_cells
from laidplates.errors import NoLot
from laidplates.layings import cells_to_lay, laid, lots_of, orders_through, without_cells
from laidplates.sticking import swapping
from laidplates.tables import check_journal, fresh, last_versions, source_rows
from laidplates.things import is_lot_of_cells
from laidplates.webs import unsound


def check_lot(table, lot):
    if not is_lot_of_cells(table.cells, lot):
        raise NoLot()


def lay_out_kept(table, journal, lot):
    """An order in which the cells can be laid from fresh plates, those of the lot having second places; or None."""
    check_journal(table, journal)
    check_lot(table, lot)
    rows = source_rows(table, journal)
    last = last_versions(table, journal)
    elder = tuple([-1 - cell for cell in lot])
    whole = cells_to_lay(table, journal, fresh(table))
    safe = [some for some in lots_of(whole)
            if lost_cells(rows, last, laid(last, fresh(table), some) + elder) == ()]
    return orders_through(safe).get(whole)


def is_enough(table, thing):
    """Whether the thing is a lot of cells with whose second places no journal sticks."""
    return is_lot_of_cells(table.cells, thing) and wanting(table, thing) == []


def wanting(table, lot):
    """The list of the knots that are not sound, without the lot, where two cells or more are left."""
    left = [without_cells(knot, lot) for knot in unsound(table)]
    return [cells for cells in left if len(cells) > 1]


def fewest_places(table):
    """How many cells a lot has at least that is enough."""
    return sum([len(knot) - 1 for knot in unsound(table)])


def sticking_kept(table, lot):
    """A journal that sticks in spite of the lot's second places, or None if the lot is enough."""
    check_lot(table, lot)
    for knot in unsound(table):
        left = without_cells(knot, lot)
        if len(left) > 1:
            return swapping(table, knot, left[0], left[1])
    return None

"""Bars: why there is no laying out, reason by reason."""

from laidplates.layings import cells_to_lay, losses, orders, with_cell, without_cells
from laidplates.things import is_integer, is_lot


def bar(table, journal, plates):
    """A bar, or None if there is a laying out.

    Its keys are the lots that can be laid one by one; what can't be laid then harms some cell.
    """
    gone = losses(table, journal, plates)
    whole = cells_to_lay(table, journal, plates)
    reached = orders(table, journal, plates)
    if whole in reached:
        return None
    return {lot: reasons_at(gone, whole, lot) for lot in reached}


def reasons_at(gone, whole, lot):
    """A reason for each cell of whole that is not of the lot."""
    reasons = []
    for cell in without_cells(whole, lot):
        then = with_cell(lot, cell)
        if gone[then] == ():
            reasons.append(("then", then))
        else:
            reasons.append(("harm", gone[then][0]))
    return tuple(reasons)


def is_bar(table, journal, plates, thing):
    gone = losses(table, journal, plates)
    whole = cells_to_lay(table, journal, plates)
    if not isinstance(thing, dict):
        return False
    for lot in thing:
        if not is_lot(lot) or lot not in gone:
            return False
    if () not in thing or whole in thing:
        return False
    for lot, reasons in thing.items():
        if not are_reasons(gone, whole, thing, lot, reasons):
            return False
    return True


def are_reasons(gone, whole, keys, lot, thing):
    """Whether the thing is a tuple of a right reason for each cell that is still to be laid."""
    left = without_cells(whole, lot)
    if not isinstance(thing, tuple) or len(thing) != len(left):
        return False
    for cell, reason in zip(left, thing):
        if not is_reason(gone, keys, with_cell(lot, cell), reason):
            return False
    return True


def is_reason(gone, keys, then, thing):
    """Whether the thing is a right reason not to go on to the lot then."""
    if not isinstance(thing, tuple) or len(thing) != 2:
        return False
    word, what = thing
    if not isinstance(word, str):
        return False
    if word == "harm":
        return is_integer(what) and what in gone[then]
    if word == "then":
        return is_lot(what) and what == then and then in keys
    return False

"""One spare, on which the present of a cell can be put while plates are laid."""

from laidplates.deriving import check_safe, lost_cells
from laidplates.layings import cells_to_lay, laid, with_cell, without_cells
from laidplates.tables import last_versions, source_rows


def lay_out_spared(table, journal, plates):
    """The steps of a laying out with a spare, as few as can be, or None.

    A state is a pair: the lot that is laid, and the lot of the cell whose present lies on the spare.
    """
    check_safe(table, journal, plates)
    rows = source_rows(table, journal)
    last = last_versions(table, journal)
    whole = cells_to_lay(table, journal, plates)
    found = {((), ()): ()}
    coming = list(found)
    while len(coming) > 0:
        further = []
        for state in coming:
            if state[0] == whole:
                return found[state]
            for step, then in steps_from(whole, state):
                if then not in found and is_safe_state(rows, last, plates, then):
                    found[then] = found[state] + (step,)
                    further.append(then)
        coming = further
    return None


def steps_from(whole, state):
    """The list of the pairs of a step and the state behind it."""
    lot, spare = state
    left = without_cells(whole, lot)
    layings = [(("lay", cell), (with_cell(lot, cell), spare)) for cell in left]
    return layings + [(("spare", cell), (lot, (cell,))) for cell in left]


def is_safe_state(rows, last, plates, state):
    """Whether all presents are derived from the plates and the spare."""
    lot, spare = state
    there = laid(last, plates, lot) + tuple([last[cell] for cell in spare])
    return lost_cells(rows, last, there) == ()

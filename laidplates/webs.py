"""The web of readings: ties between cells, knots of cells, rows of knots."""

from laidplates.errors import NoKnot
from laidplates.things import is_lot


def changing(table):
    """The lot of the cells that some kind writes."""
    written = [kind[0] for kind in table.kinds]
    return tuple([cell for cell in range(table.cells) if cell in written])


def writer(table, cell):
    """The first kind that writes a cell that changes."""
    return [kind[0] for kind in table.kinds].index(cell)


def ties(table):
    """A dict whose keys are the ties (r, w)."""
    cells = changing(table)
    found = {}
    for cell, reads in table.kinds:
        for read in reads:
            if read != cell and read in cells:
                found[(read, cell)] = True
    return found


def leading(table):
    """A dict whose keys are the pairs (a, b) of cells such that ties lead from a to b."""
    cells = changing(table)
    found = ties(table)
    for middle in cells:
        for a in cells:
            for b in cells:
                if (a, middle) in found and (middle, b) in found:
                    found[(a, b)] = True
    return found


def knots(table):
    """The ascending list of the knots."""
    cells = changing(table)
    leads = leading(table)
    found = []
    for cell in cells:
        knot = tuple([b for b in cells if b == cell or both_lead(leads, cell, b)])
        if knot[0] == cell:
            found.append(knot)
    return found


def both_lead(leads, a, b):
    return (a, b) in leads and (b, a) in leads


def row_of(table, knot):
    """The least row of the cells of a knot, or None."""
    if not is_lot(knot) or knot not in knots(table):
        raise NoKnot()
    near = neighbours(table, knot)
    ends = [cell for cell in knot if len(near[cell]) < 2]
    if len(ends) == 0 or max([len(near[cell]) for cell in knot]) > 2:
        return None
    return row_from(near, ends[0])


def neighbours(table, knot):
    """A dict from each cell of the knot to the cells of it that are tied to it, either way."""
    found = ties(table)
    return {cell: [b for b in knot if (cell, b) in found or (b, cell) in found] for cell in knot}


def row_from(near, end):
    """The row that begins with this end, each cell having two neighbours at most.

    All cells of a knot are tied together, so that it goes through all of them.
    """
    row = [end]
    further = near[end]
    while len(further) > 0:
        row.append(further[0])
        further = [cell for cell in near[row[-1]] if cell not in row]
    return tuple(row)


def sound(table):
    """The list of the sound ones among the knots."""
    return [knot for knot in knots(table) if row_of(table, knot) is not None and not reads_two(table, knot)]


def unsound(table):
    """The list of the knots that are not sound; none has one cell alone."""
    good = sound(table)
    return [knot for knot in knots(table) if knot not in good]


def reads_two(table, knot):
    """Whether some kind that writes in the knot reads two cells of it."""
    for cell, reads in table.kinds:
        if cell in knot and len([read for read in reads if read in knot]) > 1:
            return True
    return False

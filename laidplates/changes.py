"""What tables are behind changes, and which knots a change makes."""

from laidplates.errors import Full, InUse, Known, Last, NoCell, NoKind
from laidplates.runs import all_settled, is_plain
from laidplates.tables import MOST_CELLS, MOST_KINDS, Table, is_kind
from laidplates.things import is_number_below
from laidplates.webs import knots, unsound


def with_kind(table, kind):
    """The table with one kind more."""
    if not is_kind(table.cells, kind):
        raise NoKind()
    if kind in table.kinds:
        raise Known()
    if len(table.kinds) >= MOST_KINDS:
        raise Full()
    return Table(table.cells, tuple(sorted([*table.kinds, kind])))


def without_kind(table, kind):
    """The table with one kind less."""
    if not is_kind(table.cells, kind) or kind not in table.kinds:
        raise NoKind()
    if len(table.kinds) == 1:
        raise Last()
    return Table(table.cells, tuple([other for other in table.kinds if other != kind]))


def with_one_cell_more(table):
    if table.cells >= MOST_CELLS:
        raise Full()
    return Table(table.cells + 1, table.kinds)


def without_cell(table, cell):
    """The table without a cell that is not in use, the greater ones counting one less."""
    if not is_number_below(table.cells, cell):
        raise NoCell()
    for written, reads in table.kinds:
        if cell == written or cell in reads:
            raise InUse()
    kinds = [(moved_up(written, cell), tuple([moved_up(read, cell) for read in reads]))
             for written, reads in table.kinds]
    return Table(table.cells - 1, tuple(kinds))


def moved_up(other, cell):
    """What another cell is called when a cell is gone."""
    return other - 1 if other > cell else other


def knot_of(table, cell):
    """The knot of a cell that changes."""
    return [knot for knot in knots(table) if cell in knot][0]


def joined_knot(table, kind):
    """The knot that the cell of a kind would be of if the kind were added."""
    return knot_of(with_kind(table, kind), kind[0])


def parted_knots(table, kind):
    """The list of the knots into which the knot of its cell would fall if the kind were dropped."""
    left = knots(without_kind(table, kind))
    whole = knot_of(table, kind[0])
    return [knot for knot in left if knot[0] in whole]


def verdict_of(table):
    """The word for what journals and runs of the table can come to."""
    if unsound(table) != []:
        return "sticks"
    if all_settled(table):
        return "never"
    return "stuck" if is_plain(table) else "open"

"""Tables of kinds of deeds, journals of deeds, the versions that they write, plates."""

from laidplates.errors import BadTable, NoDeed, NoJournal, NoPlates
from laidplates.things import is_integer, is_lot_of_cells, is_number_below

MOST_CELLS = 8
MOST_KINDS = 40
MOST_READS = 3
MOST_DEEDS = 400


class Table:
    """So many cells, and the kinds of deeds that write them."""

    def __init__(self, cells, kinds):
        if not is_integer(cells) or not 1 <= cells <= MOST_CELLS:
            raise BadTable("cells", -1)
        if not isinstance(kinds, tuple) or not 1 <= len(kinds) <= MOST_KINDS:
            raise BadTable("kinds", -1)
        for at, kind in enumerate(kinds):
            if not is_kind(cells, kind):
                raise BadTable("kinds", at)
            if at > 0 and kind <= kinds[at - 1]:
                raise BadTable("kinds", at)
        self.cells = cells
        self.kinds = kinds

    def __eq__(self, other):
        return isinstance(other, Table) and self.cells == other.cells and self.kinds == other.kinds


def is_kind(cells, thing):
    """Whether the thing is a kind of deeds for so many cells."""
    if not isinstance(thing, tuple) or len(thing) != 2:
        return False
    cell, reads = thing
    if not is_number_below(cells, cell) or not is_lot_of_cells(cells, reads):
        return False
    return len(reads) <= MOST_READS


def is_journal(table, thing):
    if not isinstance(thing, tuple) or len(thing) > MOST_DEEDS:
        return False
    for kind in thing:
        if not is_number_below(len(table.kinds), kind):
            return False
    return True


def check_journal(table, journal):
    if not is_journal(table, journal):
        raise NoJournal()


def fresh(table):
    """The plates on which all beginnings lie."""
    return tuple([-1 - cell for cell in range(table.cells)])


def present(table, journal):
    """The last version of each cell."""
    check_journal(table, journal)
    return last_versions(table, journal)


def last_versions(table, journal):
    """The present of each cell, for what surely is a journal."""
    return last_behind(table, 0, fresh(table), journal)


def last_behind(table, first, ahead, journal):
    """The present of each cell behind deeds from the number first on, the presents ahead of these being given."""
    last = list(ahead)
    for deed, kind in enumerate(journal, start=first):
        last[table.kinds[kind][0]] = deed
    return tuple(last)


def sources(table, journal, deed):
    """The versions that a deed read, by the cells."""
    check_journal(table, journal)
    if not is_number_below(len(journal), deed):
        raise NoDeed()
    return source_rows(table, journal)[deed]


def source_rows(table, journal):
    """The list of the sources of all deeds, for what surely is a journal."""
    return rows_behind(table, 0, fresh(table), journal)


def rows_behind(table, first, ahead, journal):
    """The list of the sources of deeds from the number first on, the presents ahead of these being given."""
    last = list(ahead)
    rows = []
    for deed, kind in enumerate(journal, start=first):
        cell, reads = table.kinds[kind]
        rows.append(tuple([last[read] for read in reads]))
        last[cell] = deed
    return rows


def is_plates(table, journal, thing):
    check_journal(table, journal)
    if not isinstance(thing, tuple) or len(thing) != table.cells:
        return False
    for cell, version in enumerate(thing):
        if not is_version(table, journal, cell, version):
            return False
    return True


def is_version(table, journal, cell, thing):
    """Whether the thing is a version of this cell."""
    if is_number_below(len(journal), thing):
        return table.kinds[journal[thing]][0] == cell
    return is_integer(thing) and thing == -1 - cell


def check_plates(table, journal, plates):
    if not is_plates(table, journal, plates):
        raise NoPlates()

"""Presses: they keep values, do deeds, and lay plates on a disk whose power may fail at any write."""

from laidplates.copies import copied
from laidplates.errors import Harms, NoBegins, NoCell, NoKind, NoPress, NoSweep, NotSafe, Stuck, TooMany
from laidplates.pasts import Past
from laidplates.sweeps import check_order
from laidplates.tables import MOST_DEEDS, fresh
from laidplates.things import is_number_below


class Press:
    """The press that lies on a disk.

    In memory, side is the set that is the plates, lying the pairs (version, value) on them, past
    the deeds that are kept, worths the present values, again the deeds that were done again.
    Of a sweep there is its order, None without one, and the pairs that are swept, by the order.
    """

    def __init__(self, disk, table):
        content = disk.content()
        if ("set",) not in content:
            raise NoPress()
        self.disk = disk
        self.table = table
        self.side = content[("set",)]
        self.lying = tuple([content[("plate", self.side, cell)] for cell in range(table.cells)])
        first, ahead = content[("kept",)]
        deeds = deeds_from(content, first)
        self.past = Past(table, first, ahead, tuple([kind for kind, _ in deeds]))
        self.again = self.past.needed_by(self.plates())
        self.worths = worths_again(self.past, self.again, self.lying, [maker for _, maker in deeds])
        self.order = None
        self.second = ()

    def do(self, kind, maker):
        """Do a deed; what it writes is there if the power fails only behind the one write."""
        if not is_number_below(len(self.table.kinds), kind):
            raise NoKind()
        if len(self.past.kinds) >= MOST_DEEDS:
            raise TooMany(MOST_DEEDS)
        cell, reads = self.table.kinds[kind]
        worth = maker(tuple([self.worths[read] for read in reads]))
        self.disk.write(("deed", self.past.following()), (kind, maker))
        self.past = self.past.with_deed(kind)
        self.worths = with_item(self.worths, cell, worth)

    def value(self, cell):
        self.check_cell(cell)
        return copied(self.worths[cell])

    def plate(self, cell):
        self.check_cell(cell)
        return copied(self.lying[cell][1])

    def kept(self):
        return self.past.first, self.past.kinds

    def plates(self):
        return tuple([version for version, _ in self.lying])

    def redone(self):
        return self.again

    def harmed(self, cell):
        self.check_cell(cell)
        return self.past.harmed_by(self.plates(), cell)

    def lay(self, cell):
        cells = self.harmed(cell)
        if cells != ():
            raise Harms(cells)
        self.put(cell)

    def lay_all(self):
        order = self.past.laying_out(self.plates())
        if order is None:
            raise Stuck()
        for cell in order:
            self.put(cell)
        return order

    def cut(self):
        """Forget as many first deeds as none of which has to be done again."""
        again = self.past.needed_by(self.plates())
        first = again[0] if len(again) > 0 else self.past.following()
        many = first - self.past.first
        if many > 0:
            past = self.past.forgotten(many)
            self.disk.write(("kept",), (past.first, past.ahead))
            self.past = past
        return many

    def sweep(self, order):
        check_order(self.table, order)
        self.order = order
        self.second = ()

    def go_on(self):
        """Put the present of the next cell of the sweep on the set that is not the plates."""
        if self.order is None or len(self.second) == len(self.order):
            raise NoSweep()
        cell = self.order[len(self.second)]
        pair = self.present_pair(cell)
        self.disk.write(("plate", 1 - self.side, cell), pair)
        self.second = (*self.second, pair)
        return cell

    def turn_over(self):
        """Make the set that was swept the plates."""
        if self.order is None or len(self.second) < len(self.order):
            raise NoSweep()
        pairs = {cell: pair for cell, pair in zip(self.order, self.second)}
        lying = tuple([pairs[cell] for cell in range(self.table.cells)])
        if self.past.lost_by([version for version, _ in lying]) != ():
            raise NotSafe()
        self.disk.write(("set",), 1 - self.side)
        self.side = 1 - self.side
        self.lying = lying
        self.order = None

    def check_cell(self, cell):
        if not is_number_below(self.table.cells, cell):
            raise NoCell()

    def present_pair(self, cell):
        """The present of a cell and its value."""
        return self.past.last()[cell], self.worths[cell]

    def put(self, cell):
        """Write the present of a cell on its plate."""
        pair = self.present_pair(cell)
        self.disk.write(("plate", self.side, cell), pair)
        self.lying = with_item(self.lying, cell, pair)


def with_item(row, place, item):
    return (*row[:place], item, *row[place + 1:])


def deeds_from(content, first):
    """The list of the pairs (kind, maker) of the deeds that are kept on a disk."""
    deeds = []
    while ("deed", first + len(deeds)) in content:
        deeds.append(content[("deed", first + len(deeds))])
    return deeds


def worths_again(past, again, lying, makers):
    """The present values, made by doing deeds again; lying is what is on the plates, makers are those of all deeds."""
    worths = {version: worth for version, worth in lying}
    rows = past.rows()
    for deed in again:
        maker = makers[deed - past.first]
        worths[deed] = maker(tuple([worths[version] for version in rows[deed - past.first]]))
    return tuple([worths[version] for version in past.last()])


def begun(disk, table, begins):
    """The press of a table that is begun on a disk; ("set",) is written last, as it makes it one."""
    if not isinstance(begins, tuple) or len(begins) != table.cells:
        raise NoBegins()
    places = [("plate", 0, cell) for cell in range(table.cells)] + [("kept",)]
    for place in disk.content():
        if place not in places:
            raise NoPress()
    for cell, worth in enumerate(begins):
        disk.write(("plate", 0, cell), (-1 - cell, worth))
    disk.write(("kept",), (0, fresh(table)))
    disk.write(("set",), 0)
    return Press(disk, table)

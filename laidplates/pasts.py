"""The past of a press: a journal whose first deeds may be forgotten."""

from laidplates.deriving import deeds_again, lost_cells
from laidplates.layings import laid, lots_of, not_held, orders_through
from laidplates.tables import last_behind, rows_behind


class Past:
    """The kinds of the deeds that are kept, from the number first on, and the presents ahead of them."""

    def __init__(self, table, first, ahead, kinds):
        self.table = table
        self.first = first
        self.ahead = ahead
        self.kinds = kinds

    def following(self):
        """The number of the next deed."""
        return self.first + len(self.kinds)

    def with_deed(self, kind):
        """The past behind one deed more."""
        return Past(self.table, self.first, self.ahead, (*self.kinds, kind))

    def forgotten(self, many):
        """The past without so many first deeds."""
        ahead = last_behind(self.table, self.first, self.ahead, self.kinds[:many])
        return Past(self.table, self.first + many, ahead, self.kinds[many:])

    def last(self):
        """The present of each cell."""
        return last_behind(self.table, self.first, self.ahead, self.kinds)

    def rows(self):
        """The list of the sources of the deeds that are kept."""
        return rows_behind(self.table, self.first, self.ahead, self.kinds)

    def lost_by(self, plates):
        """The lot of the cells whose present is not derived."""
        return lost_cells(self.rows(), self.last(), plates, self.first)

    def harmed_by(self, plates, cell):
        """The lot of the cells that are lost if the cell is laid."""
        return self.lost_by(laid(self.last(), plates, (cell,)))

    def needed_by(self, plates):
        """The deeds that have to be done again so that all presents are there."""
        return deeds_again(self.rows(), self.last(), plates, self.first)

    def laying_out(self, plates):
        """An order in which the presents can be laid, or None."""
        rows = self.rows()
        last = self.last()
        whole = not_held(last, plates)
        safe = [lot for lot in lots_of(whole)
                if lost_cells(rows, last, laid(last, plates, lot), self.first) == ()]
        return orders_through(safe).get(whole)

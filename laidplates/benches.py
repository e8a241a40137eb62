"""Benches: tables that are changed step by step, with changes taken back and done again, and with marks."""

from laidplates.changes import (joined_knot, parted_knots, verdict_of, with_kind, with_one_cell_more, without_cell,
                                without_kind)
from laidplates.errors import BadChange, NoMark, NothingDone, PlateError
from laidplates.things import is_name, is_word
from laidplates.webs import knots, row_of, sound, unsound


class Bench:
    """A table that is changed.

    entries are the changes, with those that were taken back and can be done again; tables are
    the tables ahead of, between and behind these; many is how many of them stand; marked is a dict
    from the names of marks to numbers of deeds. All of these are put in the place of elder ones,
    never changed, so that copies can share them.
    """

    def __init__(self, table):
        self.tables = (table,)
        self.entries = ()
        self.many = 0
        self.marked = {}

    def now(self):
        return self.tables[self.many]

    def knots(self):
        return knots(self.now())

    def bad_knots(self):
        return unsound(self.now())

    def rows(self):
        """A dict from the sound knots to their rows."""
        return {knot: row_of(self.now(), knot) for knot in sound(self.now())}

    def verdict(self):
        return verdict_of(self.now())

    def add_kind(self, kind):
        self.change(("add_kind", kind), with_kind(self.now(), kind))

    def drop_kind(self, kind):
        self.change(("drop_kind", kind), without_kind(self.now(), kind))

    def add_cell(self):
        self.change(("add_cell",), with_one_cell_more(self.now()))

    def drop_cell(self, cell):
        self.change(("drop_cell", cell), without_cell(self.now(), cell))

    def joined(self, kind):
        return joined_knot(self.now(), kind)

    def parted(self, kind):
        return parted_knots(self.now(), kind)

    def undo(self):
        if self.many == 0:
            raise NothingDone()
        self.many -= 1

    def redo(self):
        if self.many == len(self.entries):
            raise NothingDone()
        self.many += 1

    def many_done(self):
        return self.many

    def mark(self, name):
        if not is_name(name):
            raise NoMark(name)
        self.marked = {**self.marked, name: self.many}

    def marks(self):
        return tuple(sorted(self.marked))

    def go_to(self, name):
        """Go to a mark; no mark stands where undo and redo do not lead."""
        if not is_name(name) or name not in self.marked:
            raise NoMark(name)
        self.many = self.marked[name]

    def copy(self):
        other = Bench(self.tables[0])
        other.tables = self.tables
        other.entries = self.entries
        other.many = self.many
        other.marked = self.marked
        return other

    def trying(self, action):
        """What the action returns for the bench, which is behind it as it was."""
        tables, entries, many, marked = self.tables, self.entries, self.many, self.marked
        try:
            return action(self)
        finally:
            self.tables, self.entries, self.many, self.marked = tables, entries, many, marked

    def journal(self):
        """The list of the changes that stand."""
        return list(self.entries[:self.many])

    def change(self, entry, table):
        """Put a change, and the table that it makes, in the place of all that was taken back."""
        self.marked = {name: at for name, at in self.marked.items() if at <= self.many}
        self.tables = (*self.tables[:self.many + 1], table)
        self.entries = (*self.entries[:self.many], entry)
        self.many += 1


def replayed(table, thing):
    """A bench that is led by a list or tuple of changes."""
    if not isinstance(thing, (list, tuple)):
        raise BadChange(-1)
    bench = Bench(table)
    for index, entry in enumerate(thing):
        if not is_done(bench, entry):
            raise BadChange(index)
    return bench


def is_done(bench, entry):
    """Whether the thing is a change that can be done, which is done then."""
    try:
        return is_change_done(bench, entry)
    except PlateError:
        return False


def is_change_done(bench, entry):
    """Whether the thing is a change, which is done then, or raises what it raises."""
    if not isinstance(entry, tuple) or not 1 <= len(entry) <= 2:
        return False
    word, *told = entry
    if is_word("add_cell", word) and told == []:
        bench.add_cell()
    elif is_word("add_kind", word) and told != []:
        bench.add_kind(told[0])
    elif is_word("drop_kind", word) and told != []:
        bench.drop_kind(told[0])
    elif is_word("drop_cell", word) and told != []:
        bench.drop_cell(told[0])
    else:
        return False
    return True

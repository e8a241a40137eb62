"""A disk of cells, whose power may fail at any write."""

from laidplates.copies import copied
from laidplates.errors import NoNumber, Stopped
from laidplates.things import is_integer


class Disk:
    """Cells, and how many more writes are let, None for any number."""

    def __init__(self):
        self.lying = {}
        self.left = None
        self.many = 0

    def content(self):
        return copied(self.lying)

    def write(self, cell, thing):
        if self.left == 0:
            raise Stopped()
        if self.left is not None:
            self.left -= 1
        self.lying[cell] = copied(thing)
        self.many += 1

    def power(self, writes):
        """Let so many more writes from now on, any number for None."""
        if writes is not None and (not is_integer(writes) or writes < 0):
            raise NoNumber()
        self.left = writes

    def written(self):
        return self.many

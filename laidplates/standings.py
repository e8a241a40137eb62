"""Standings: what a journal of few cells leaves behind, as far as anything further can tell.

Further deeds and layings can only change what is there of each cell, a DIGIT: 0 for what lies
on its plate now, 1 for its present of now, laid ahead of its next version, 2 for neither. A CASE
is a digit for each cell, as a number in threes. A STANDING is a pair (masks, held): the bit of a
case in masks[cell] tells whether the present of the cell is derived in this case, held[cell]
whether its plate holds it.
"""

from laidplates.errors import NoNumber, TooMany
from laidplates.layings import lots_of, orders_through
from laidplates.things import is_number_below

FEW_CELLS = 3
MOST_COUNTED = 60


class Cases:
    """All cases of so many cells, and what deeds and layings make of standings."""

    def __init__(self, cells):
        self.cells = cells
        self.weights = [1, 3, 9][:cells]
        self.many = 3 * self.weights[-1]
        self.having = [[self.cases_with(weight, digit) for digit in range(3)] for weight in self.weights]

    def cases_with(self, weight, digit):
        """The bits of the cases that have this digit where digits count so much."""
        return sum([1 << case for case in range(self.many) if case // weight % 3 == digit])

    def beginning(self):
        """The standing of no deeds, and of fresh plates."""
        return tuple([having[0] | having[1] for having in self.having]), (True,) * self.cells

    def moved(self, mask, cell, digit):
        """The mask with what it says of the digit's next one for the digit of this cell, too."""
        having = self.having[cell]
        return mask - (mask & having[digit]) + ((mask & having[digit + 1]) >> self.weights[cell])

    def done(self, standing, kind):
        """The standing behind a deed; what was the present of its cell can't be laid any more."""
        cell, reads = kind
        masks = [self.moved(mask, cell, 1) for mask in standing[0]]
        written = (1 << self.many) - 1
        for read in reads:
            written = written & masks[read]
        masks[cell] = written | self.having[cell][1]
        return tuple(masks), self.with_held(standing, cell, False)

    def laid(self, standing, cell):
        """The standing behind a laying; what lay on the plate of the cell is gone."""
        masks = [self.moved(mask, cell, 0) for mask in standing[0]]
        return tuple(masks), self.with_held(standing, cell, True)

    def with_held(self, standing, cell, flag):
        return tuple([flag if at == cell else old for at, old in enumerate(standing[1])])

    def lost(self, standing, lot):
        """The lot of the cells whose present is not derived when the lot is laid."""
        case = sum([self.weights[cell] for cell in lot])
        return tuple([cell for cell, mask in enumerate(standing[0]) if not mask >> case & 1])

    def is_stuck(self, standing):
        """Whether there is no laying out."""
        whole = tuple([cell for cell, held in enumerate(standing[1]) if not held])
        return whole not in orders_through([lot for lot in lots_of(whole) if self.lost(standing, lot) == ()])


def check_few_cells(table):
    if table.cells > FEW_CELLS:
        raise TooMany(FEW_CELLS)


def explored(table):
    """The triple (journals, nexts, stuck) of lists over all standings of journals, from fresh plates.

    They tell the first journal of a standing, fewest first, in which order the standings stand;
    the numbers of the standings behind it, by the kinds; and whether its journals stick.
    """
    cases = Cases(table.cells)
    numbers = {cases.beginning(): 0}
    standings = [cases.beginning()]
    journals = [()]
    nexts = []
    while len(nexts) < len(standings):
        at = len(nexts)
        nexts.append([])
        for number, kind in enumerate(table.kinds):
            then = cases.done(standings[at], kind)
            if then not in numbers:
                numbers[then] = len(standings)
                standings.append(then)
                journals.append(journals[at] + (number,))
            nexts[at].append(numbers[then])
    return journals, nexts, [cases.is_stuck(standing) for standing in standings]


def shortest_sticking(table):
    """The first journal that sticks, fewest first, or None."""
    check_few_cells(table)
    journals, _, stuck = explored(table)
    return journals[stuck.index(True)] if True in stuck else None


def count_sticking(table, many):
    """How many journals of just so many deeds stick."""
    check_few_cells(table)
    if not is_number_below(MOST_COUNTED + 1, many):
        raise NoNumber()
    _, nexts, stuck = explored(table)
    counts = [1] + [0] * (len(nexts) - 1)
    for _ in range(many):
        counts = counts_behind(nexts, counts)
    return sum([count for count, flag in zip(counts, stuck) if flag])


def counts_behind(nexts, counts):
    """How many journals lead to each standing with one deed more."""
    behind = [0] * len(nexts)
    for count, row in zip(counts, nexts):
        for at in row:
            behind[at] += count
    return behind

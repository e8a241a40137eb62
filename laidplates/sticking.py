"""Journals that stick: from fresh plates behind them there is no laying out."""

from laidplates.layings import lay_out, without_cells
from laidplates.tables import fresh, is_journal
from laidplates.webs import unsound, writer


def never_sticks(table):
    """Whether no journal of the table sticks, by the shape of its readings alone."""
    return unsound(table) == []


def is_sticking(table, thing):
    return is_journal(table, thing) and lay_out(table, thing, fresh(table)) is None


def sticking(table):
    """A journal that sticks, or None."""
    bad = unsound(table)
    if bad == []:
        return None
    return swapping(table, bad[0], bad[0][0], bad[0][1])


def swapping(table, knot, one, other):
    """A journal behind which of two cells of a knot that is not sound neither can be laid first.

    The present of each of both needs the beginning of the other one, by a way of versions none of
    which is a present: so the other cells are written once more at the end. No cell beyond the
    knot is written, so that what is read there stays on its plates.
    """
    journal = crossing(table, knot, one, other)
    for cell in without_cells(knot, (one, other)):
        journal = journal + (writer(table, cell),)
    return journal


def crossing(table, knot, one, other):
    """The first journal, fewest first, that brings the beginnings of one and other to each other's cell.

    A beginning is followed by a token (place, through): it is needed by the present of the place,
    by a way that goes through the presents of the cells through, as far as these are one or other.
    """
    pair = (one, other)
    numbers = [number for number, kind in enumerate(table.kinds) if kind[0] in knot]
    goal = ((other, ()), (one, ()))
    journals = {((one, ()), (other, ())): ()}
    coming = list(journals)
    while len(coming) > 0 and goal not in journals:
        further = []
        for state in coming:
            for number in numbers:
                for then in states_behind(pair, state, table.kinds[number]):
                    if then not in journals:
                        journals[then] = journals[state] + (number,)
                        further.append(then)
        coming = further
    return journals[goal]


def states_behind(pair, state, kind):
    """The list of the pairs of tokens that may be there behind a deed of the kind."""
    return [(one, other) for one in tokens_behind(pair, state[0], kind)
            for other in tokens_behind(pair, state[1], kind)]


def tokens_behind(pair, token, kind):
    """The list of what a token may be behind a deed: where it is, or where the deed writes."""
    cell, reads = kind
    place, through = token
    found = []
    if place != cell:
        found.append((place, without_cells(through, (cell,))))
    if place in reads:
        passed = [own for own in pair if own == place or own in through]
        found.append((cell, without_cells(tuple(passed), (cell,))))
    return found

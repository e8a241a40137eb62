"""Mended tables, from which kinds are gone so that no journal sticks, and tables of as many ties as can be."""

from laidplates.errors import NoNumber, NoPrices, TooMany
from laidplates.layings import lots_of, without_cells
from laidplates.tables import MOST_CELLS, MOST_READS, Table
from laidplates.things import is_integer, is_lot_of_cells, is_number_below
from laidplates.webs import unsound

MOST_BAD_KINDS = 10
GREATEST = 10 ** 30


def is_sound_without(table, lot):
    """Whether all knots are sound without the kinds of the lot; of no kinds there are none."""
    left = tuple([kind for number, kind in enumerate(table.kinds) if number not in lot])
    return left == () or unsound(Table(table.cells, left)) == []


def is_mending(table, thing):
    """Whether the thing is one; its numbers are told from others as cells are."""
    if not is_lot_of_cells(len(table.kinds), thing) or not is_sound_without(table, thing):
        return False
    return not any([is_sound_without(table, without_cells(thing, (number,))) for number in thing])


def mendings(table):
    """The list of all mendings, fewest first.

    With fewer kinds no sound knot gets worse, so that a lot is one just if it has no part that is.
    """
    bad = bad_kinds(table)
    if len(bad) > MOST_BAD_KINDS:
        raise TooMany(MOST_BAD_KINDS)
    found = []
    for _, lot in sorted([(len(lot), lot) for lot in lots_of(bad)]):
        if not has_part(lot, found) and is_sound_without(table, lot):
            found.append(lot)
    return found


def bad_kinds(table):
    """The lot of the kinds that write in knots that are not sound."""
    bad = unsound(table)
    return tuple([number for number, kind in enumerate(table.kinds) if any([kind[0] in knot for knot in bad])])


def has_part(lot, others):
    """Whether one of the others has no number that is not of the lot."""
    return any([without_cells(other, lot) == () for other in others])


def cheapest_mending(table, prices):
    """The first of the mendings whose kinds cost least together."""
    found = mendings(table)
    if not is_prices(table, prices):
        raise NoPrices()
    costs = [sum([prices[number] for number in lot]) for lot in found]
    return found[costs.index(min(costs))]


def is_prices(table, thing):
    """Whether the thing is a tuple of a price for each kind."""
    if not isinstance(thing, tuple) or len(thing) != len(table.kinds):
        return False
    return all([is_number_below(GREATEST + 1, price) for price in thing])


def check_cells(cells, most):
    if not is_integer(cells) or not 1 <= cells <= most:
        raise NoNumber()


def most_ties(cells):
    """How many ties a table of which no journal sticks has at most: one for each two cells, and one for each pair."""
    check_cells(cells, GREATEST)
    return cells * (cells - 1) // 2 + cells // 2


def most_ordered(cells):
    """How many ties a table with a sweep order has at most."""
    check_cells(cells, GREATEST)
    return cells * (cells - 1) // 2


def tied_table(cells):
    """A table of which no journal sticks, of as many ties as can be.

    The cells 0 and 1, 2 and 3, and so on read each other, and each one reads all of the pairs ahead.
    A kind reads the other cell of a pair, or some of those ahead, as many as it can.
    """
    check_cells(cells, MOST_CELLS)
    kinds = []
    for cell in range(cells):
        ahead = list(range(cell // 2 * 2))
        other = cell + 1 if len(ahead) == cell else cell - 1
        kinds.append((cell, (other,) if other < cells else ()))
        for begin in range(0, len(ahead), MOST_READS):
            kinds.append((cell, tuple(ahead[begin:begin + MOST_READS])))
    return Table(cells, tuple(sorted(kinds)))

"""Sweeps: a second set of plates is filled, cell by cell, while deeds go on."""

from laidplates.deriving import is_safe
from laidplates.errors import NoOrder, NoWeaving
from laidplates.tables import last_versions
from laidplates.things import is_number_below, is_step, is_word
from laidplates.webs import ties, writer

MOST_STEPS = 400


def is_order(table, thing):
    """Whether the thing is a tuple of all cells, each once."""
    if not isinstance(thing, tuple) or len(thing) != table.cells:
        return False
    for at, cell in enumerate(thing):
        if not is_number_below(table.cells, cell) or cell in thing[:at]:
            return False
    return True


def check_order(table, order):
    if not is_order(table, order):
        raise NoOrder()


def is_weaving(table, thing):
    """Whether the thing is a weaving; for this all orders are alike."""
    if not isinstance(thing, tuple) or len(thing) > MOST_STEPS:
        return False
    for step in thing:
        if not is_sweep(step) and not is_step("do", len(table.kinds), step):
            return False
    return len([step for step in thing if is_sweep(step)]) == table.cells


def is_sweep(thing):
    return isinstance(thing, tuple) and len(thing) == 1 and is_word("sweep", thing[0])


def swept(table, order, weaving):
    """The pair (journal, second set) behind a weaving of the order."""
    check_order(table, order)
    if not is_weaving(table, weaving):
        raise NoWeaving()
    journal = ()
    second = {}
    for step in weaving:
        if is_sweep(step):
            cell = order[len(second)]
            second[cell] = last_versions(table, journal)[cell]
        else:
            journal = journal + (step[1],)
    return journal, tuple([second[cell] for cell in range(table.cells)])


def is_whole(table, order, thing):
    """Whether the thing is a weaving of the order, and all presents are derived by its second set."""
    check_order(table, order)
    if not is_weaving(table, thing):
        return False
    journal, second = swept(table, order, thing)
    return is_safe(table, journal, second)


def wrong_tie(table, order):
    """The least tie (r, w) such that r is behind w in the order, or None."""
    wrong = [(r, w) for r, w in ties(table) if order.index(r) > order.index(w)]
    return min(wrong) if len(wrong) > 0 else None


def is_sweep_order(table, thing):
    """Whether the thing is an order all of whose weavings are whole."""
    return is_order(table, thing) and wrong_tie(table, thing) is None


def sweep_order(table):
    """The least order all of whose weavings are whole, or None.

    Taking the least cell that may stand next never spoils what comes behind it.
    """
    order = ()
    pairs = list(ties(table))
    while len(order) < table.cells:
        held_back = [w for r, w in pairs if r not in order]
        ready = [cell for cell in range(table.cells) if cell not in order and cell not in held_back]
        if len(ready) == 0:
            return None
        order = order + (ready[0],)
    return order


def spoiling(table, order):
    """A weaving of the order that is not whole, or None.

    Where w is swept ahead of r though it reads r, a deed that makes w of r and one that writes r
    anew stand between both, so that what the present of w was made of is on no plate.
    """
    check_order(table, order)
    tie = wrong_tie(table, order)
    if tie is None:
        return None
    r, w = tie
    ahead = order.index(w) + 1
    deeds = (("do", tying(table, r, w)), ("do", writer(table, r)))
    return (("sweep",),) * ahead + deeds + (("sweep",),) * (table.cells - ahead)


def tying(table, r, w):
    """The first kind that writes w and reads r."""
    return [kind[0] == w and r in kind[1] for kind in table.kinds].index(True)

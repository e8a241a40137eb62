"""Runs: deeds, and plates that are laid meanwhile such that they stay safe."""

from laidplates.deriving import is_safe
from laidplates.errors import NoRun, NotPlain
from laidplates.layings import laid, lay_out
from laidplates.sticking import sticking
from laidplates.tables import fresh, last_versions
from laidplates.things import is_step
from laidplates.webs import changing, knots, row_of, sound, ties, writer

MOST_STEPS = 400


def is_run(table, thing):
    return end_of(table, thing) is not None


def behind(table, run):
    """The pair (journal, plates) behind a run."""
    end = end_of(table, run)
    if end is None:
        raise NoRun()
    return end


def is_stuck_run(table, thing):
    end = end_of(table, thing)
    return end is not None and lay_out(table, end[0], end[1]) is None


def end_of(table, thing):
    """The pair (journal, plates) behind a thing, or None if this is no run.

    Only layings can harm: a deed reads presents, which are derived.
    """
    if not isinstance(thing, tuple) or len(thing) > MOST_STEPS:
        return None
    journal = ()
    plates = fresh(table)
    for step in thing:
        if is_step("do", len(table.kinds), step):
            journal = journal + (step[1],)
        elif is_step("lay", table.cells, step):
            plates = laid(last_versions(table, journal), plates, (step[1],))
            if not is_safe(table, journal, plates):
                return None
        else:
            return None
    return journal, plates


def is_plain(table):
    for knot in open_rows(table):
        for r, w in ties(table):
            if r in knot and w in knot and copier(table, changing(table), w, r) is None:
                return False
    return True


def open_rows(table):
    """The list of the sound knots of three cells that are not shut."""
    return [knot for knot in sound(table) if len(knot) == 3 and opening(table, knot) is not None]


def opening(table, knot):
    """The first kind that writes in the knot and reads a changing cell beyond it; None if it is shut."""
    for number, kind in enumerate(table.kinds):
        if kind[0] in knot and cell_beyond(table, knot, kind) is not None:
            return number
    return None


def cell_beyond(table, knot, kind):
    """The first changing cell beyond the knot that the kind reads, or None."""
    for read in kind[1]:
        if read not in knot and read in changing(table):
            return read
    return None


def copier(table, cells, w, r):
    """The first kind that writes w and reads, of these cells, r alone; or None."""
    for number, kind in enumerate(table.kinds):
        if kind[0] == w and [read for read in kind[1] if read in cells] == [r]:
            return number
    return None


def check_plain(table):
    if not is_plain(table):
        raise NotPlain()


def never_stuck(table):
    """Whether no run is stuck, by the shape of the readings alone."""
    check_plain(table)
    return all_settled(table)


def all_settled(table):
    """Whether all knots are sound, and have at most two cells, or three and are shut."""
    if sound(table) != knots(table) or open_rows(table) != []:
        return False
    return max([len(knot) for knot in knots(table)]) <= 3


def stuck_run(table):
    """A run that is stuck, or None."""
    check_plain(table)
    journal = sticking(table)
    if journal is not None:
        return tuple([("do", number) for number in journal])
    long_rows = [knot for knot in knots(table) if len(knot) > 3]
    if long_rows != []:
        return run_in_long_row(table, long_rows[0])
    open_ones = open_rows(table)
    if open_ones != []:
        return run_in_open_row(table, open_ones[0])
    return None


def copying(table, cells, w, r):
    """A step that writes w and reads, of these cells, r alone."""
    return ("do", copier(table, cells, w, r))


def run_in_long_row(table, knot):
    """A run that is stuck, in the first four cells a, b, c, d of a sound knot.

    Both a and b are made of what c began with, and what d began with is brought through b to c
    and d; it is laid at b meanwhile. Behind the last laying c needs what lies on the plate of b,
    and b, written by way of a, what lies on that of c.
    """
    a, b, c, d = row_of(table, knot)[:4]
    ways = [(b, c), (a, b), (c, d), (b, c), (c, b), (d, c)]
    there = [copying(table, knot, w, r) for w, r in ways]
    back = [copying(table, knot, w, r) for w, r in [(b, a), (a, b)]]
    return (*there, ("lay", b), *back, ("lay", d))


def run_in_open_row(table, knot):
    """A run that is stuck, in a sound knot of three cells a, b, c that reads a changing cell z.

    What a began with is brought to c, and what z began with to b and a; it is laid at b
    meanwhile. Behind the last laying a needs what lies on the plate of b, and b, written by
    way of c, what lies on that of a.
    """
    number = opening(table, knot)
    kind = table.kinds[number]
    z = cell_beyond(table, knot, kind)
    cells = changing(table)
    a, b, c = row_of(table, knot)
    if kind[0] == c:
        a, c = c, a
    brought = [("do", number), copying(table, cells, b, a), copying(table, cells, a, b)]
    if kind[0] == b:
        brought = [("do", number), copying(table, cells, a, b)]
    there = [copying(table, cells, b, a), copying(table, cells, c, b), *brought, ("do", writer(table, z))]
    back = [copying(table, cells, b, c), copying(table, cells, c, b)]
    return (*there, ("lay", b), *back, ("lay", z))

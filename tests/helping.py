"""What several tests need: objects of every kind, and the promises worked out by hand."""

from itertools import permutations, product

from laidplates.benches import Bench
from laidplates.desks import Desk
from laidplates.disks import Disk
from laidplates.errors import BadTable, NoJournal, NoPlates, NotSafe
from laidplates.presses import begun
from laidplates.tables import Table

T = Table(2, ((0, (1,)), (1, (0,))))
F = Table(2, ((0, (0, 1)), (1, (0,))))


class Dice:
    """Numbers that look like chance and are the same in each run."""

    def __init__(self, seed):
        self.state = seed

    def roll(self, sides):
        self.state = (self.state * 6364136223846793005 + 1442695040888963407) % 2 ** 64
        return (self.state >> 33) % sides


def nested(wrap, inner, deep):
    for _ in range(deep):
        inner = wrap(inner)
    return inner


def things():
    """A new list of objects of every kind that may be passed where an error is named."""
    table = Table(1, ((0, ()),))
    plain = [
        None, True, False, 0, 1, 2, -1, -2, 400, 10 ** 60 - 1, 1 - 10 ** 60, "", "a", "()", "harm", "~\n\t ",
        b"", b"\x00\x01", bytearray(b"ab"), memoryview(b"ab"), range(0), range(2), slice(0, 2), ...,
        NotImplemented, int, tuple, ValueError, len, [].append, lambda: 0, object(), iter(()), iter([0]),
        (at for at in ()), {}.keys(), {0: 1}.items(), {}.values(), enumerate(()), zip(), reversed([]),
        map(len, ()), ValueError("a"), property(), super(Dice, Dice(1)),
    ]
    rows = [
        [], [0], [0, 1], [-1, -2], [[0]], {}, {0: 0}, {(): ()}, {"a": [1]}, {None: ()}, {(0, "a"): {}},
        (), (0,), (0, 1), (1, 0), (0, 0), (-1,), (-2,), (-1, -2), (0, 1, 2), (True,), (False,), (False, True),
        (0, True), (-1, False), (None,), (None, None), ("a",), ("0", "1"), (b"a", 0), ((),), ((), ()),
        ((), (), ()), ([],), ([0], [1]), ({},), ((0,), (1,)), ((0, 1), (1, 0)), (len, int), (..., ...),
    ]
    objects = [table, NoJournal(), BadTable([table], table), Table, Disk(), Bench(table), Desk(),
               begun(Disk(), table, (0,))]
    within = [(table,), [table], (table, table), {"a": table}, {0: (table,)}, ((table, 0),), (0, table),
              (0, NoJournal()), ((0, (table,)),), {NoJournal(): 0}]
    deep = [nested(lambda inner: (inner,), leaf, 39) for leaf in ((), 0, True, table)]
    deep += [nested(lambda inner: [inner], [], 39), nested(lambda inner: {"a": inner}, {}, 39),
             nested(lambda inner: (inner, inner), (), 9), {nested(lambda inner: (inner,), 0, 38): 0}]
    great = [(0,) * 20000, [0] * 20000, ((),) * 20000, ([],) * 20000, tuple(range(20000)), (table,) * 20000,
             {at: at for at in range(10000)}, {(at,): () for at in range(6000)}, "a" * 20000, (True,) * 20000]
    return plain + rows + objects + within + deep + great


def raised(action, *arguments):
    """The error of a call, or None."""
    try:
        action(*arguments)
    except ValueError as error:
        return error
    return None


def is_number(thing):
    return type(thing) is int


def is_row_of_numbers(thing):
    return type(thing) is tuple and all(map(is_number, thing))


def is_journal_by_hand(table, thing):
    if not is_row_of_numbers(thing) or len(thing) > 400:
        return False
    return all(kind in range(len(table.kinds)) for kind in thing)


def is_plates_by_hand(table, journal, thing):
    if not is_row_of_numbers(thing) or len(thing) != table.cells:
        return False
    return all(version in versions_of(table, journal, cell) for cell, version in enumerate(thing))


def versions_of(table, journal, cell):
    return [-1 - cell] + [deed for deed, kind in enumerate(journal) if table.kinds[kind][0] == cell]


def presents_by_hand(table, journal):
    return tuple(versions_of(table, journal, cell)[-1] for cell in range(table.cells))


def sources_by_hand(table, journal, deed):
    reads = table.kinds[journal[deed]][1]
    return tuple(versions_of(table, journal[:deed], cell)[-1] for cell in reads)


def derived_by_hand(table, journal, plates):
    found = set(plates)
    while True:
        more = {deed for deed in range(len(journal))
                if found.issuperset(sources_by_hand(table, journal, deed))} - found
        if not more:
            return tuple(sorted(found))
        found |= more


def lost_by_hand(table, journal, plates):
    found = derived_by_hand(table, journal, plates)
    return tuple(cell for cell, last in enumerate(presents_by_hand(table, journal)) if last not in found)


def is_safe_by_hand(table, journal, plates):
    return lost_by_hand(table, journal, plates) == ()


def plates_of(table, journal):
    """All plates of a journal."""
    return list(product(*[versions_of(table, journal, cell) for cell in range(table.cells)]))


def some_table(dice, cells, most_kinds):
    """Most of its kinds read something, as else there is little to lose."""
    kinds = set()
    for _ in range(1 + dice.roll(most_kinds)):
        reads = {dice.roll(cells) for _ in range(dice.roll(3) + 1 if dice.roll(9) else 0)}
        kinds.add((dice.roll(cells), tuple(sorted(reads))))
    return Table(cells, tuple(sorted(kinds)))


def some_journal(dice, table, deeds):
    return tuple(dice.roll(len(table.kinds)) for _ in range(deeds))


def some_plates(dice, table, journal):
    choices = [versions_of(table, journal, cell) for cell in range(table.cells)]
    return tuple(versions[dice.roll(len(versions))] for versions in choices)


def some_cases(seed, many, cells, deeds):
    """Tables, journals and plates, at most so great; safe plates and others."""
    dice = Dice(seed)
    cases = []
    for _ in range(many):
        table = some_table(dice, 1 + dice.roll(cells), 6)
        journal = some_journal(dice, table, dice.roll(deeds + 1))
        cases.append((table, journal, some_plates(dice, table, journal)))
    return cases


def table_of(cells, kinds):
    return Table(cells, tuple(sorted({(cell, tuple(sorted(reads))) for cell, reads in kinds})))


def tied(cells, pairs, more=()):
    """A table with just these ties (r, w), and a kind that reads nothing for each cell tied."""
    kinds = [(w, (r,)) for r, w in pairs] + [(cell, ()) for pair in pairs for cell in pair]
    return table_of(cells, kinds + list(more))


def changing_by_hand(table):
    return sorted({kind[0] for kind in table.kinds})


def ties_by_hand(table):
    return {(r, w) for w, reads in table.kinds for r in reads if r != w and r in changing_by_hand(table)}


def is_led(pairs, a, b):
    """Whether ties lead from a to b, by going from cell to cell."""
    seen, coming = {a}, [a]
    while coming:
        cell = coming.pop()
        for r, w in pairs:
            if r == cell and w not in seen:
                seen.add(w)
                coming.append(w)
    return b in seen


def knots_by_hand(table):
    cells = changing_by_hand(table)
    pairs = ties_by_hand(table)
    return sorted({tuple(b for b in cells if is_led(pairs, a, b) and is_led(pairs, b, a)) for a in cells})


def row_by_hand(table, knot):
    pairs = [(r, w) for r, w in ties_by_hand(table) if r in knot and w in knot]
    for row in permutations(knot):
        if all(abs(row.index(r) - row.index(w)) == 1 for r, w in pairs):
            return row
    return None


def sound_by_hand(table):
    found = []
    for knot in knots_by_hand(table):
        reading = [len(set(reads) & set(knot)) for cell, reads in table.kinds if cell in knot]
        if row_by_hand(table, knot) is not None and max(reading) < 2:
            found.append(knot)
    return found


def is_open_by_hand(table, knot):
    cells = set(changing_by_hand(table))
    return any(cell in knot and (set(reads) & cells) - set(knot) for cell, reads in table.kinds)


def is_plain_by_hand(table):
    cells = set(changing_by_hand(table))
    alone = {(r, w) for w, reads in table.kinds for r in reads if set(reads) & cells == {r}}
    return all((r, w) in alone for knot in sound_by_hand(table) if len(knot) == 3 and is_open_by_hand(table, knot)
               for r, w in ties_by_hand(table) if r in knot and w in knot)


def is_settled_by_hand(table):
    knots = knots_by_hand(table)
    return knots == sound_by_hand(table) and all(
        len(knot) < 3 or len(knot) == 3 and not is_open_by_hand(table, knot) for knot in knots)


def open_row(order, w, reads, of_z, more=()):
    """A row of three cells, then a cell z beyond, which the kind (w, reads with z) reads."""
    a, b, c, z = order
    kinds = [(a, (b,)), (b, (a,)), (b, (c,)), (c, (b,)), (w, tuple(sorted({*reads, z}))), (z, of_z)]
    return table_of(max(order) + 1, kinds + list(more))


def ends_by_hand(table, journal):
    """The pair of the sources of all deeds and the presents, in one pass."""
    last = [-1 - cell for cell in range(table.cells)]
    rows = []
    for deed, kind in enumerate(journal):
        cell, reads = table.kinds[kind]
        rows.append([last[read] for read in reads])
        last[cell] = deed
    return rows, last


def all_come_back(rows, last, there):
    """Whether all presents do, by going back from them to what is there."""
    seen, coming = set(there), list(last)
    while coming:
        version = coming.pop()
        if version not in seen:
            if version < 0:
                return False
            seen.add(version)
            coming.extend(rows[version])
    return True


def goes_kept(table, journal, plates, order, kept=()):
    """Whether the cells can be laid in this order, the elder copies of those kept staying."""
    rows, last = ends_by_hand(table, journal)
    plates, elder = list(plates), [plates[cell] for cell in kept]
    for cell in order:
        plates[cell] = last[cell]
        if not all_come_back(rows, last, plates + elder):
            return False
    return True


def can_lay_out(table, journal, plates, kept=()):
    """Whether there is a laying out, by going through the orders of laying, from safe plates."""
    rows, last = ends_by_hand(table, journal)
    elder = [plates[cell] for cell in kept]
    dead = set()

    def goes_on(now):
        if now in dead:
            return False
        dead.add(now)
        if not all_come_back(rows, last, [*now, *elder]):
            return False
        further = [cell for cell in range(table.cells) if now[cell] != last[cell]]
        return not further or any(goes_on(now[:cell] + (last[cell],) + now[cell + 1:]) for cell in further)

    return goes_on(tuple(plates))


def begins(table):
    return tuple(-1 - cell for cell in range(table.cells))


def sticks_by_hand(table, journal, kept=()):
    return not can_lay_out(table, journal, begins(table), kept)


def all_journals(table, deeds):
    """All journals of just so many deeds, by the order of tuples."""
    return product(range(len(table.kinds)), repeat=deeds)


def all_lots(cells):
    return [tuple(cell for cell in range(cells) if bits >> cell & 1) for bits in range(2 ** cells)]


def tables_of_two_cells():
    """All tables of two cells."""
    kinds = [(cell, reads) for cell in range(2) for reads in ((), (0,), (0, 1), (1,))]
    for bits in range(1, 2 ** len(kinds)):
        yield Table(2, tuple(kind for at, kind in enumerate(kinds) if bits >> at & 1))


def filled_up(dice, table, many):
    """The table with further kinds, up to so many, none of which makes a tie or reads more of a knot.

    Each one reads some of what another one reads, and perhaps a cell that never changes.
    """
    kinds = set(table.kinds)
    still = [cell for cell in range(table.cells) if cell not in changing_by_hand(table)]
    for _ in range(20 * many):
        cell, reads = sorted(kinds)[dice.roll(len(kinds))]
        more = {read for read in reads if dice.roll(3)}
        if still and len(more) < 3:
            more.add(still[dice.roll(len(still))])
        if len(kinds) < many:
            kinds.add((cell, tuple(sorted(more))))
    return Table(table.cells, tuple(sorted(kinds)))


def ring(cells, both=False, more=()):
    """A ring of cells, each reading the next one; perhaps the other way round, too."""
    kinds = [(cell, ((cell + 1) % cells,)) for cell in range(cells)]
    if both:
        kinds += [((cell + 1) % cells, (cell,)) for cell in range(cells)]
    return Table(max([cells] + [1 + max((cell, *reads)) for cell, reads in more]), tuple(sorted({*kinds, *more})))


def row(order, cells=None, more=()):
    """Cells in a row, each reading its neighbours, by kinds that read one cell alone."""
    pairs = list(zip(order, order[1:]))
    kinds = [(a, (b,)) for a, b in pairs] + [(b, (a,)) for a, b in pairs] + [(cell, ()) for cell in order]
    return Table(cells or max(order) + 1, tuple(sorted({*kinds, *more})))


# Tables, journals and safe plates, not fresh, where some first steps that are safe lead nowhere.
WITH_DEAD_ENDS = [
    (Table(4, ((0, (0,)), (0, (1, 2)), (0, (2, 3)), (0, (3,)), (1, ()), (1, (0, 1)), (2, (0, 2, 3)), (2, (3,)),
               (3, (0, 2)), (3, (2,)))), (3, 8, 5, 1, 6, 5, 8), (0, -2, -3, -4)),
    (Table(4, ((0, (0, 2, 3)), (1, (0, 2, 3)), (1, (1,)), (2, (1, 2, 3)), (3, (0, 2)), (3, (1, 2)), (3, (1, 3)))),
     (4, 5, 3, 6, 0, 1, 0, 4), (-1, -2, -3, 3)),
    (Table(3, ((0, (1,)), (0, (2,)), (1, (0,)), (1, (0, 1)), (1, (0, 2)), (2, (0, 1)), (2, (1, 2)))),
     (2, 1, 5, 3, 1, 5), (1, 0, -3)),
    (Table(5, ((0, (1, 2, 3)), (0, (2,)), (1, (0, 2)), (1, (1,)), (1, (3,)), (2, (2, 3)), (2, (3,)), (3, ()),
               (3, (0, 1)), (3, (1, 2)), (4, ()))), (9, 2, 0, 8, 7, 8, 7), (-1, -2, -3, 0, -5)),
]


def check_refusals_of_safe_plates(test, action, *more):
    """What takes safe plates of T and something more names NoJournal, NoPlates, NotSafe in this order."""
    for thing in things():
        if not is_journal_by_hand(T, thing):
            test.assertIs(type(raised(action, T, thing, (-1, -2), *more)), NoJournal)
            test.assertIs(type(raised(action, T, thing, thing, *more)), NoJournal)
        if not is_plates_by_hand(T, (0, 1), thing):
            test.assertIs(type(raised(action, T, (0, 1), thing, *more)), NoPlates)
    test.assertIs(type(raised(action, T, (0, 1), (-1, 1), *more)), NotSafe)
    test.assertIs(type(raised(action, T, [0, 1], (-1, 1), *more)), NoJournal)
    test.assertIs(type(raised(action, T, (0, 1), (-1, True), *more)), NoPlates)

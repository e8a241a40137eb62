"""What several tests need: objects of every kind, and the promises worked out by hand."""

from itertools import product

from laidplates.errors import BadTable, NoJournal, NoPlates, NotSafe
from laidplates.tables import Table

T = Table(2, ((0, (1,)), (1, (0,))))
F = Table(2, ((0, (0, 1)), (1, (0,))))


class Dice:
    """Numbers that look like chance and are the same in each run."""

    def __init__(self, seed):
        self.state = seed

    def roll(self, sides):
        self.state = (self.state * 6364136223846793005 + 1442695040888963407) % 2 ** 64
        return (self.state >> 33) % sides


def nested(wrap, inner, deep):
    for _ in range(deep):
        inner = wrap(inner)
    return inner


def things():
    """A new list of objects of every kind that may be passed where an error is named."""
    table = Table(1, ((0, ()),))
    plain = [
        None, True, False, 0, 1, 2, -1, -2, 400, 10 ** 60 - 1, 1 - 10 ** 60, "", "a", "()", "harm", "~\n\t ",
        b"", b"\x00\x01", bytearray(b"ab"), memoryview(b"ab"), range(0), range(2), slice(0, 2), ...,
        NotImplemented, int, tuple, ValueError, len, [].append, lambda: 0, object(), iter(()), iter([0]),
        (at for at in ()), {}.keys(), {0: 1}.items(), {}.values(), enumerate(()), zip(), reversed([]),
        map(len, ()), ValueError("a"), property(), super(Dice, Dice(1)),
    ]
    rows = [
        [], [0], [0, 1], [-1, -2], [[0]], {}, {0: 0}, {(): ()}, {"a": [1]}, {None: ()}, {(0, "a"): {}},
        (), (0,), (0, 1), (1, 0), (0, 0), (-1,), (-2,), (-1, -2), (0, 1, 2), (True,), (False,), (False, True),
        (0, True), (-1, False), (None,), (None, None), ("a",), ("0", "1"), (b"a", 0), ((),), ((), ()),
        ((), (), ()), ([],), ([0], [1]), ({},), ((0,), (1,)), ((0, 1), (1, 0)), (len, int), (..., ...),
    ]
    objects = [table, NoJournal(), BadTable([table], table), Table]
    within = [(table,), [table], (table, table), {"a": table}, {0: (table,)}, ((table, 0),), (0, table),
              (0, NoJournal()), ((0, (table,)),), {NoJournal(): 0}]
    deep = [nested(lambda inner: (inner,), leaf, 39) for leaf in ((), 0, True, table)]
    deep += [nested(lambda inner: [inner], [], 39), nested(lambda inner: {"a": inner}, {}, 39),
             nested(lambda inner: (inner, inner), (), 9), {nested(lambda inner: (inner,), 0, 38): 0}]
    great = [(0,) * 20000, [0] * 20000, ((),) * 20000, ([],) * 20000, tuple(range(20000)), (table,) * 20000,
             {at: at for at in range(10000)}, {(at,): () for at in range(6000)}, "a" * 20000, (True,) * 20000]
    return plain + rows + objects + within + deep + great


def raised(action, *arguments):
    """The error of a call, or None."""
    try:
        action(*arguments)
    except ValueError as error:
        return error
    return None


def is_number(thing):
    return type(thing) is int


def is_row_of_numbers(thing):
    return type(thing) is tuple and all(map(is_number, thing))


def is_journal_by_hand(table, thing):
    if not is_row_of_numbers(thing) or len(thing) > 400:
        return False
    return all(kind in range(len(table.kinds)) for kind in thing)


def is_plates_by_hand(table, journal, thing):
    if not is_row_of_numbers(thing) or len(thing) != table.cells:
        return False
    return all(version in versions_of(table, journal, cell) for cell, version in enumerate(thing))


def versions_of(table, journal, cell):
    return [-1 - cell] + [deed for deed, kind in enumerate(journal) if table.kinds[kind][0] == cell]


def presents_by_hand(table, journal):
    return tuple(versions_of(table, journal, cell)[-1] for cell in range(table.cells))


def sources_by_hand(table, journal, deed):
    reads = table.kinds[journal[deed]][1]
    return tuple(versions_of(table, journal[:deed], cell)[-1] for cell in reads)


def derived_by_hand(table, journal, plates):
    found = set(plates)
    while True:
        more = {deed for deed in range(len(journal))
                if found.issuperset(sources_by_hand(table, journal, deed))} - found
        if not more:
            return tuple(sorted(found))
        found |= more


def lost_by_hand(table, journal, plates):
    found = derived_by_hand(table, journal, plates)
    return tuple(cell for cell, last in enumerate(presents_by_hand(table, journal)) if last not in found)


def is_safe_by_hand(table, journal, plates):
    return lost_by_hand(table, journal, plates) == ()


def plates_of(table, journal):
    """All plates of a journal."""
    return list(product(*[versions_of(table, journal, cell) for cell in range(table.cells)]))


def some_table(dice, cells, most_kinds):
    """Most of its kinds read something, as else there is little to lose."""
    kinds = set()
    for _ in range(1 + dice.roll(most_kinds)):
        reads = {dice.roll(cells) for _ in range(dice.roll(3) + 1 if dice.roll(9) else 0)}
        kinds.add((dice.roll(cells), tuple(sorted(reads))))
    return Table(cells, tuple(sorted(kinds)))


def some_journal(dice, table, deeds):
    return tuple(dice.roll(len(table.kinds)) for _ in range(deeds))


def some_plates(dice, table, journal):
    choices = [versions_of(table, journal, cell) for cell in range(table.cells)]
    return tuple(versions[dice.roll(len(versions))] for versions in choices)


def some_cases(seed, many, cells, deeds):
    """Tables, journals and plates, at most so great; safe plates and others."""
    dice = Dice(seed)
    cases = []
    for _ in range(many):
        table = some_table(dice, 1 + dice.roll(cells), 6)
        journal = some_journal(dice, table, dice.roll(deeds + 1))
        cases.append((table, journal, some_plates(dice, table, journal)))
    return cases


# Tables, journals and safe plates, not fresh, where some first steps that are safe lead nowhere.
WITH_DEAD_ENDS = [
    (Table(4, ((0, (0,)), (0, (1, 2)), (0, (2, 3)), (0, (3,)), (1, ()), (1, (0, 1)), (2, (0, 2, 3)), (2, (3,)),
               (3, (0, 2)), (3, (2,)))), (3, 8, 5, 1, 6, 5, 8), (0, -2, -3, -4)),
    (Table(4, ((0, (0, 2, 3)), (1, (0, 2, 3)), (1, (1,)), (2, (1, 2, 3)), (3, (0, 2)), (3, (1, 2)), (3, (1, 3)))),
     (4, 5, 3, 6, 0, 1, 0, 4), (-1, -2, -3, 3)),
    (Table(3, ((0, (1,)), (0, (2,)), (1, (0,)), (1, (0, 1)), (1, (0, 2)), (2, (0, 1)), (2, (1, 2)))),
     (2, 1, 5, 3, 1, 5), (1, 0, -3)),
    (Table(5, ((0, (1, 2, 3)), (0, (2,)), (1, (0, 2)), (1, (1,)), (1, (3,)), (2, (2, 3)), (2, (3,)), (3, ()),
               (3, (0, 1)), (3, (1, 2)), (4, ()))), (9, 2, 0, 8, 7, 8, 7), (-1, -2, -3, 0, -5)),
]


def check_refusals_of_safe_plates(test, action, *more):
    """What takes safe plates of T and something more names NoJournal, NoPlates, NotSafe in this order."""
    for thing in things():
        if not is_journal_by_hand(T, thing):
            test.assertIs(type(raised(action, T, thing, (-1, -2), *more)), NoJournal)
            test.assertIs(type(raised(action, T, thing, thing, *more)), NoJournal)
        if not is_plates_by_hand(T, (0, 1), thing):
            test.assertIs(type(raised(action, T, (0, 1), thing, *more)), NoPlates)
    test.assertIs(type(raised(action, T, (0, 1), (-1, 1), *more)), NotSafe)
    test.assertIs(type(raised(action, T, [0, 1], (-1, 1), *more)), NoJournal)
    test.assertIs(type(raised(action, T, (0, 1), (-1, True), *more)), NoPlates)

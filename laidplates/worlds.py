"""Worlds: what deeds write if versions are bits, and two beginnings that plates do not tell apart."""

from laidplates.deriving import derived_marks
from laidplates.errors import NoWorld
from laidplates.tables import check_journal, check_plates, fresh, last_versions, source_rows
from laidplates.things import is_bits


def bits_of(table, journal, functions, begin):
    """The bits of the versions of all deeds."""
    check_journal(table, journal)
    if not is_functions(table, journal, functions) or not is_bits(table.cells, begin):
        raise NoWorld()
    bits = bits_by_version(table, journal, functions, begin)
    return tuple([bits[deed] for deed in range(len(journal))])


def is_functions(table, journal, thing):
    """Whether the thing is a tuple of a function of bits for each deed."""
    if not isinstance(thing, tuple) or len(thing) != len(journal):
        return False
    for kind, bits in zip(journal, thing):
        reads = table.kinds[kind][1]
        if not is_bits(1 << len(reads), bits):
            return False
    return True


def bits_by_version(table, journal, functions, begin):
    """A dict from all versions to their bits."""
    bits = {-1 - cell: bit for cell, bit in enumerate(begin)}
    for deed, row in enumerate(source_rows(table, journal)):
        number = 0
        for version in row:
            number = number * 2 + bits[version]
        bits[deed] = functions[deed][number]
    return bits


def parting(table, journal, plates):
    """A world in which just what is not derived differs, or None if the plates are safe.

    A derived version is 0 from both beginnings; another one is 1 if any of its sources is 1,
    so that it tells of a beginning that is on no plate.
    """
    check_plates(table, journal, plates)
    rows = source_rows(table, journal)
    marks = derived_marks(rows, plates)
    functions = []
    for deed, row in enumerate(rows):
        many = 1 << len(row)
        functions.append((0,) * many if deed in marks else (0,) + (1,) * (many - 1))
    one = (0,) * table.cells
    other = tuple([0 if version in marks else 1 for version in fresh(table)])
    world = (tuple(functions), one, other)
    return world if is_parting(table, journal, plates, world) else None


def is_parting(table, journal, plates, thing):
    check_plates(table, journal, plates)
    if not isinstance(thing, tuple) or len(thing) != 3:
        return False
    functions, one, other = thing
    if not is_functions(table, journal, functions):
        return False
    if not is_bits(table.cells, one) or not is_bits(table.cells, other):
        return False
    bits = bits_by_version(table, journal, functions, one)
    others = bits_by_version(table, journal, functions, other)
    if [bits[version] for version in plates] != [others[version] for version in plates]:
        return False
    last = last_versions(table, journal)
    return [bits[version] for version in last] != [others[version] for version in last]
